/- Contracts of conv.productOf: of the row, and of the row turned; and of the two closures. -/
import Derived.Test.YtcppcfbcgopmoaaDoorConvErr
import Derived.Test.YtcppcfbcgopmoaaDoorNttCyc
namespace Go.Proofs.YtcppcfbcgopmoaaDoor
open Go.RowKit Res

set_option maxHeartbeats 400000 in
theorem straight_any (j n c bx : Nat) (hj : j < n) (hn : n ≤ 1152921504606846976) (ao : Option Addr) (A : Nat → Int) (w : World) (hc : w.cell? ⟨bx, 0, none⟩ = some (.slice ao n c)) (la : Lies w ao n A) :
    Calls Tryd.prog 23 #[.int .i64 j, .pointer (some ⟨bx, 0, none⟩)] w fun e w' => e = .returned (.int .u64 (A j)) ∧ w' = w := by
  obtain ⟨b, o, rfl, hf⟩ := la (by omega)
  have hcj := hf j hj
  clear hf la
  go_enter Tryd.func23, Tryd.ntmps23
  go_wp2_with fail
  go_ret
  exact ⟨rfl, rfl⟩

set_option maxHeartbeats 400000 in
theorem turned_any (j n c bx : Nat) (hj : j < n) (hn : n ≤ 1152921504606846976) (ao : Option Addr) (A : Nat → Int) (w : World) (hc : w.cell? ⟨bx, 0, none⟩ = some (.slice ao n c)) (la : Lies w ao n A) :
    Calls Tryd.prog 29 #[.int .i64 j, .pointer (some ⟨bx, 0, none⟩)] w fun e w' => e = .returned (.int .u64 (A (n - 1 - j))) ∧ w' = w := by
  obtain ⟨b, o, rfl, hf⟩ := la (by omega)
  obtain ⟨r, hr⟩ : ∃ r, r = n - 1 - j := ⟨_, rfl⟩
  have hcj := hf r (by omega)
  rw [← hr]
  have hrI : (n : Int) - 1 - (j : Int) = (r : Int) := by omega
  have hrn : r < n := by omega
  clear hf la hr
  go_enter Tryd.func29, Tryd.ntmps29
  go_wp2_with fail
  go_ret
  exact ⟨rfl, rfl⟩

set_option maxHeartbeats 2000000 in
theorem productOf_straight (bx : Nat) (ao bo : Option Addr) (n m ca cb N : Nat) (h1 : 1 ≤ n) (h2 : 1 ≤ m) (hN : n + m = N + 1) (hle : n + m ≤ 4097) (A B D : Nat → Int) (hDe : ∀ j, j < n → D j = A j) (hD0 : ∀ t, 0 ≤ D t) (hB0 : ∀ t, 0 ≤ B t) (hfit : ∀ t, cv n m D B t ≤ 18446744073709551615) (w : World) (hbx : w.cell? ⟨bx, 0, none⟩ = some (.slice ao n ca)) (la : Lies w ao n A) (lb : Lies w bo m B) :
    Calls Tryd.prog 24 #[.int .i64 n, .func (.func 23) #[] #[.pointer (some ⟨bx, 0, none⟩)], .slice bo m cb] w fun e w' =>
      e = .returned (.slice (some ⟨w.heap.size, 0, none⟩) N N) ∧ w.heap.size < w'.heap.size ∧ Fam w' w.heap.size 0 N (cv n m D B) ∧ Below w.heap.size w w' := by
  obtain ⟨bb, bof, rfl, hb⟩ := lb h2
  have hbb : bb < w.heap.size := hb.lt (by omega)
  have hxl : bx < w.heap.size := World.block_lt_of_cell? w _ hbx
  have hmk := run_make_row' (P := Tryd.prog) 22 26 (.int .u64 0) 8 Tryd.underlying22 infoU rfl .i64 .i64 N (by omega) (by omega)
  obtain ⟨w1, hw1⟩ : ∃ w1, w1 = w.alloc (.cells (madeCells #[.int .u64 0] N) 26) := ⟨_, rfl⟩
  have E1 : Hid _ := hw1
  have hB1 : Below w.heap.size w w1 := by rw [hw1]; exact (Below.refl _ _).alloc (Nat.le_refl _) _
  have HB : Hid (Below w.heap.size w w1) := hB1
  have hS : Hid (w.heap.size < w1.heap.size) := by show _ < _; rw [hw1, size_alloc]; omega
  have R0 : Hid (RowAt w1 w1 w.heap.size N (cp m D B 0 0)) := ⟨by rw [hw1]; exact (fam_made w N 26).congr (fun t _ => (cp_zero m D B t).symm), by rw [hw1]; exact wrt_made w N 26, Wrote.refl _ _⟩
  have hb1 : Fam w1 bb bof m B := hb.below hB1 hbb
  have hrow : Hid (∀ j, cp m D B j m = cp m D B (j + 1) 0) := fun j => by funext t; exact cp_row m D B j t
  have hfin : Hid (cp m D B n 0 = cv n m D B) := by funext t; exact cp_fin n m D B t
  have hst : Hid (∀ j i x, j + i < N → x = cp m D B j i (j + i) + D j * B i → ∀ wr, RowAt w1 wr w.heap.size N (cp m D B j i) → RowAt w1 (wr.setCell ⟨w.heap.size, j + i, none⟩ (.int .u64 x)).drew w.heap.size N (cp m D B j (i + 1))) :=
    fun j i x hlt hx wr h => h.step hlt (by rw [hx]; exact cp_at m D B j i) (fun t _ hne => cp_off m D B j i t hne)
  have hc0 : ∀ j i t, 0 ≤ cp m D B j i t := cp_nonneg hD0 hB0
  have hc1 : Hid (∀ j i, j < n → i < m → cp m D B j i (j + i) + D j * B i ≤ 18446744073709551615) := fun j i hj hi => by
    rw [cp_at]
    exact Int.le_trans (cp_le hD0 hB0 j (i + 1) (j + i) hj (by omega)) (hfit _)
  have HX : Hid (∀ wr, Wrote (fun b _ => b = w.heap.size) w1 wr → ∀ j : Nat, j < n → Calls Tryd.prog 23 #[.int .i64 j, .pointer (some ⟨bx, 0, none⟩)] wr fun e w' => e = .returned (.int .u64 (D j)) ∧ w' = wr) := fun wr hw j hj => by
    have hB : Below w.heap.size w wr := hB1.trans (hw.below (fun b o e => by omega))
    rw [hDe j hj]
    exact straight_any j n ca bx hj (by omega) ao A wr ((hB.cell (p := ⟨bx, 0, none⟩) hxl).trans hbx) (la.below hB (Nat.le_refl _))
  clear hfit hDe la lb hbx hb hw1 hB1 hxl
  generalize cp m D B = C at *
  generalize cv n m D B = Z at *
  have hNI : (n : Int) + (m : Int) - 1 = (N : Int) := by omega
  go_enter Tryd.func24, Tryd.ntmps24
  go_wp2_with fail
  rw [← E1.out]
  clear E1 hmk hNI
  go_loopw [19] (fun vj wr => ∃ j : Nat, j ≤ n ∧ vj = .int .i64 j ∧ RowAt w1 wr w.heap.size N (C j 0)) (fun vj _ => n - (intOf vj).toNat)
  case atStart => exact ⟨0, Nat.zero_le _, rfl, R0.out⟩
  case round =>
    obtain ⟨j, hj, rfl, hR⟩ := hrel
    by_cases hlt : j < n
    · have HR : Hid (∀ q, RowAt w1 (wr.drewN q) w.heap.size N (C j 0)) := fun q => ⟨hR.fam, hR.wrt, hR.wrote.drewN q⟩
      have cl : Hid _ := fun q => HX.out (wr.drewN q) (hR.wrote.drewN q) j hlt
      have hjn : (j : Int) < (n : Int) := by omega
      clear hR
      go_wp2_with fail
      go_quiet ((go_at_call 23; exact Calls.quiet_of_same (cl.out _)))
      go_wp2_with fail
      rw [Nat.add_sub_cancel_left j m]
      rename World => wo
      go_loopw [34] (fun vi wr => ∃ i : Nat, i ≤ m ∧ vi = .int .i64 i ∧ RowAt w1 wr w.heap.size N (C j i)) (fun vi _ => m - (intOf vi).toNat)
      case atStart => exact ⟨0, Nat.zero_le _, rfl, HR.out nq⟩
      case round =>
        obtain ⟨i, hi, rfl, hR2⟩ := hrel
        by_cases hlt2 : i < m
        · have hji : j + i < N := by omega
          have hcO : wr.cell? ⟨w.heap.size, j + i, none⟩ = some (.int .u64 (C j i (j + i))) := hR2.fam.zero (j + i) hji
          have hfO : wr.frozen? ⟨w.heap.size, j + i, none⟩ = false := hR2.wrt.zero (j + i) hji
          have hcB : wr.cell? ⟨bb, bof + i, none⟩ = some (.int .u64 (B i)) := hR2.wrote.fam hb1 (fun t _ e => by omega) i hlt2
          obtain ⟨V, hV⟩ : ∃ V, D j * B i = V := ⟨_, rfl⟩
          have hV0 : 0 ≤ V := by rw [← hV]; exact Int.mul_nonneg (hD0 j) (hB0 i)
          have hC0 := hc0 j i (j + i)
          have hCV : C j i (j + i) + V ≤ 18446744073709551615 := by rw [← hV]; exact hc1.out j i hlt hlt2
          have HS : Hid _ := hst.out j i (C j i (j + i) + V) hji (by rw [hV]) wr hR2
          have hin : (i : Int) < (m : Int) := by omega
          have hi0 : (0 : Int) ≤ (i : Int) := by omega
          generalize C j i (j + i) = c at *
          clear hR2 HR hc1 hst hrow HX cl hD0 hB0 hc0 R0
          go_wp2_with fail
          go_region
          all_goals
            go_wp2_with fail
            go_roundw
            case rel => exact ⟨i + 1, by omega, by go_num, HS.out⟩
            case measure => simp [intOf]; omega
        · obtain rfl : i = m := by omega
          have HN : Hid (RowAt w1 wr w.heap.size N (C (j + 1) 0)) := by show RowAt _ _ _ _ _; rw [← hrow.out j]; exact hR2
          clear hR2 HR
          go_wp2_with fail
          go_roundw
          case rel => exact ⟨j + 1, by omega, by go_num, HN.out⟩
          case measure => simp [intOf]; omega
    · obtain rfl : j = n := by omega
      have F2 : Hid (Fam wr w.heap.size 0 N Z) := by show Fam _ _ _ _ _; rw [← hfin.out]; exact hR.fam
      have B2 : Hid (Below w.heap.size w wr) := HB.out.trans (hR.wrote.below (fun b o e => by omega))
      have hsz : Hid (w.heap.size < wr.heap.size) := by show w.heap.size < wr.heap.size; rw [hR.wrote.size]; exact hS.out
      clear hR
      go_wp2_with fail
      go_ret
      exact ⟨rfl, hsz.out, F2.out, B2.out⟩

set_option maxHeartbeats 2000000 in
theorem productOf_turned (bx : Nat) (ao bo : Option Addr) (n m ca cb N : Nat) (h1 : 1 ≤ n) (h2 : 1 ≤ m) (hN : n + m = N + 1) (hle : n + m ≤ 4097) (A B D : Nat → Int) (hDe : ∀ j, j < n → D j = A (n - 1 - j)) (hD0 : ∀ t, 0 ≤ D t) (hB0 : ∀ t, 0 ≤ B t) (hfit : ∀ t, cv n m D B t ≤ 18446744073709551615) (w : World) (hbx : w.cell? ⟨bx, 0, none⟩ = some (.slice ao n ca)) (la : Lies w ao n A) (lb : Lies w bo m B) :
    Calls Tryd.prog 24 #[.int .i64 n, .func (.func 29) #[] #[.pointer (some ⟨bx, 0, none⟩)], .slice bo m cb] w fun e w' =>
      e = .returned (.slice (some ⟨w.heap.size, 0, none⟩) N N) ∧ w.heap.size < w'.heap.size ∧ Fam w' w.heap.size 0 N (cv n m D B) ∧ Below w.heap.size w w' := by
  obtain ⟨bb, bof, rfl, hb⟩ := lb h2
  have hbb : bb < w.heap.size := hb.lt (by omega)
  have hxl : bx < w.heap.size := World.block_lt_of_cell? w _ hbx
  have hmk := run_make_row' (P := Tryd.prog) 22 26 (.int .u64 0) 8 Tryd.underlying22 infoU rfl .i64 .i64 N (by omega) (by omega)
  obtain ⟨w1, hw1⟩ : ∃ w1, w1 = w.alloc (.cells (madeCells #[.int .u64 0] N) 26) := ⟨_, rfl⟩
  have E1 : Hid _ := hw1
  have hB1 : Below w.heap.size w w1 := by rw [hw1]; exact (Below.refl _ _).alloc (Nat.le_refl _) _
  have HB : Hid (Below w.heap.size w w1) := hB1
  have hS : Hid (w.heap.size < w1.heap.size) := by show _ < _; rw [hw1, size_alloc]; omega
  have R0 : Hid (RowAt w1 w1 w.heap.size N (cp m D B 0 0)) := ⟨by rw [hw1]; exact (fam_made w N 26).congr (fun t _ => (cp_zero m D B t).symm), by rw [hw1]; exact wrt_made w N 26, Wrote.refl _ _⟩
  have hb1 : Fam w1 bb bof m B := hb.below hB1 hbb
  have hrow : Hid (∀ j, cp m D B j m = cp m D B (j + 1) 0) := fun j => by funext t; exact cp_row m D B j t
  have hfin : Hid (cp m D B n 0 = cv n m D B) := by funext t; exact cp_fin n m D B t
  have hst : Hid (∀ j i x, j + i < N → x = cp m D B j i (j + i) + D j * B i → ∀ wr, RowAt w1 wr w.heap.size N (cp m D B j i) → RowAt w1 (wr.setCell ⟨w.heap.size, j + i, none⟩ (.int .u64 x)).drew w.heap.size N (cp m D B j (i + 1))) :=
    fun j i x hlt hx wr h => h.step hlt (by rw [hx]; exact cp_at m D B j i) (fun t _ hne => cp_off m D B j i t hne)
  have hc0 : ∀ j i t, 0 ≤ cp m D B j i t := cp_nonneg hD0 hB0
  have hc1 : Hid (∀ j i, j < n → i < m → cp m D B j i (j + i) + D j * B i ≤ 18446744073709551615) := fun j i hj hi => by
    rw [cp_at]
    exact Int.le_trans (cp_le hD0 hB0 j (i + 1) (j + i) hj (by omega)) (hfit _)
  have HX : Hid (∀ wr, Wrote (fun b _ => b = w.heap.size) w1 wr → ∀ j : Nat, j < n → Calls Tryd.prog 29 #[.int .i64 j, .pointer (some ⟨bx, 0, none⟩)] wr fun e w' => e = .returned (.int .u64 (D j)) ∧ w' = wr) := fun wr hw j hj => by
    have hB : Below w.heap.size w wr := hB1.trans (hw.below (fun b o e => by omega))
    rw [hDe j hj]
    exact turned_any j n ca bx hj (by omega) ao A wr ((hB.cell (p := ⟨bx, 0, none⟩) hxl).trans hbx) (la.below hB (Nat.le_refl _))
  clear hfit hDe la lb hbx hb hw1 hB1 hxl
  generalize cp m D B = C at *
  generalize cv n m D B = Z at *
  have hNI : (n : Int) + (m : Int) - 1 = (N : Int) := by omega
  go_enter Tryd.func24, Tryd.ntmps24
  go_wp2_with fail
  rw [← E1.out]
  clear E1 hmk hNI
  go_loopw [19] (fun vj wr => ∃ j : Nat, j ≤ n ∧ vj = .int .i64 j ∧ RowAt w1 wr w.heap.size N (C j 0)) (fun vj _ => n - (intOf vj).toNat)
  case atStart => exact ⟨0, Nat.zero_le _, rfl, R0.out⟩
  case round =>
    obtain ⟨j, hj, rfl, hR⟩ := hrel
    by_cases hlt : j < n
    · have HR : Hid (∀ q, RowAt w1 (wr.drewN q) w.heap.size N (C j 0)) := fun q => ⟨hR.fam, hR.wrt, hR.wrote.drewN q⟩
      have cl : Hid _ := fun q => HX.out (wr.drewN q) (hR.wrote.drewN q) j hlt
      have hjn : (j : Int) < (n : Int) := by omega
      clear hR
      go_wp2_with fail
      go_quiet ((go_at_call 29; exact Calls.quiet_of_same (cl.out _)))
      go_wp2_with fail
      rw [Nat.add_sub_cancel_left j m]
      rename World => wo
      go_loopw [34] (fun vi wr => ∃ i : Nat, i ≤ m ∧ vi = .int .i64 i ∧ RowAt w1 wr w.heap.size N (C j i)) (fun vi _ => m - (intOf vi).toNat)
      case atStart => exact ⟨0, Nat.zero_le _, rfl, HR.out nq⟩
      case round =>
        obtain ⟨i, hi, rfl, hR2⟩ := hrel
        by_cases hlt2 : i < m
        · have hji : j + i < N := by omega
          have hcO : wr.cell? ⟨w.heap.size, j + i, none⟩ = some (.int .u64 (C j i (j + i))) := hR2.fam.zero (j + i) hji
          have hfO : wr.frozen? ⟨w.heap.size, j + i, none⟩ = false := hR2.wrt.zero (j + i) hji
          have hcB : wr.cell? ⟨bb, bof + i, none⟩ = some (.int .u64 (B i)) := hR2.wrote.fam hb1 (fun t _ e => by omega) i hlt2
          obtain ⟨V, hV⟩ : ∃ V, D j * B i = V := ⟨_, rfl⟩
          have hV0 : 0 ≤ V := by rw [← hV]; exact Int.mul_nonneg (hD0 j) (hB0 i)
          have hC0 := hc0 j i (j + i)
          have hCV : C j i (j + i) + V ≤ 18446744073709551615 := by rw [← hV]; exact hc1.out j i hlt hlt2
          have HS : Hid _ := hst.out j i (C j i (j + i) + V) hji (by rw [hV]) wr hR2
          have hin : (i : Int) < (m : Int) := by omega
          have hi0 : (0 : Int) ≤ (i : Int) := by omega
          generalize C j i (j + i) = c at *
          clear hR2 HR hc1 hst hrow HX cl hD0 hB0 hc0 R0
          go_wp2_with fail
          go_region
          all_goals
            go_wp2_with fail
            go_roundw
            case rel => exact ⟨i + 1, by omega, by go_num, HS.out⟩
            case measure => simp [intOf]; omega
        · obtain rfl : i = m := by omega
          have HN : Hid (RowAt w1 wr w.heap.size N (C (j + 1) 0)) := by show RowAt _ _ _ _ _; rw [← hrow.out j]; exact hR2
          clear hR2 HR
          go_wp2_with fail
          go_roundw
          case rel => exact ⟨j + 1, by omega, by go_num, HN.out⟩
          case measure => simp [intOf]; omega
    · obtain rfl : j = n := by omega
      have F2 : Hid (Fam wr w.heap.size 0 N Z) := by show Fam _ _ _ _ _; rw [← hfin.out]; exact hR.fam
      have B2 : Hid (Below w.heap.size w wr) := HB.out.trans (hR.wrote.below (fun b o e => by omega))
      have hsz : Hid (w.heap.size < wr.heap.size) := by show w.heap.size < wr.heap.size; rw [hR.wrote.size]; exact hS.out
      clear hR
      go_wp2_with fail
      go_ret
      exact ⟨rfl, hsz.out, F2.out, B2.out⟩
end Go.Proofs.YtcppcfbcgopmoaaDoor
