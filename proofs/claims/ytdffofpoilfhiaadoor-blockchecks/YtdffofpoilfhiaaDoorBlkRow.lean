/- Contracts of block.widened and of slices.Reverse, of rows that are not empty. -/
import Derived.Test.YtdffofpoilfhiaaDoorBlkMath
import Derived.Test.YtdffofpoilfhiaaDoorConvA
namespace Go.Proofs.YtdffofpoilfhiaaDoor
open Go.RowKit Res

/-- The first numbers of a row laid over zeros. -/
theorem copy_fit (w : World) (b o n c S : Nat) (A : Nat → Int) (hf : Fam w b o n A) :
    ∃ w2, (Builtin.copy_ #[22, 22] 3 #[.slice (some ⟨w.heap.size, 0, none⟩) S S, .slice (some ⟨b, o, none⟩) n c]).run Tryd.prog (w.alloc (.cells (madeCells #[.int .u64 0] S) 40)) = .ok (.int .i64 (min n S : Nat)) w2 ∧ Fam w2 w.heap.size 0 S (pd n A) ∧ Wrt w2 w.heap.size 0 S ∧ Below w.heap.size w w2 ∧ w.heap.size < w2.heap.size := by
  obtain ⟨cu, hb, hnl, hcu⟩ := World.rowIs_made w (.int .u64 0) S 40
  obtain ⟨k, hk⟩ : ∃ k, k = min n S := ⟨_, rfl⟩
  have hlen : (cellsOf A k).length = k := by simp [cellsOf]
  have hr := run_copy_row (P := Tryd.prog) (w.alloc (.cells (madeCells #[.int .u64 0] S) 40)) 22 22 3 40 w.heap.size 0 S S ⟨b, o, none⟩ n c cu 40 (cellsOf A k) Tryd.underlying22 (by kernel_rfl) hb (by rw [hlen]; omega) (cells_at ((hf.head k (by omega)).alloc _)) (by rw [hlen, hnl]; omega) (cells_one A k)
  rw [hlen, hk] at hr
  rw [hk] at hlen
  refine ⟨_, hr, ?_, ?_, ?_, ?_⟩
  · intro t ht
    rw [cell_setRow_same _ _ _ cu _ 40 (0, 0) hb, Nat.zero_add t]
    unfold pd
    have e : ((cu.toList.take 0 ++ cellsOf A (min n S) ++ cu.toList.drop (0 + min n S)).toArray)[t]? = (cellsOf A (min n S) ++ cu.toList.drop (min n S))[t]? := by simp
    rw [e]
    by_cases h2 : t < n
    · rw [List.getElem?_append_left (by omega), if_pos h2]
      have h3 : t < min n S := by omega
      unfold cellsOf
      rw [List.getElem?_map, List.getElem?_range h3]
      rfl
    · rw [List.getElem?_append_right (by omega), if_neg h2, hlen, List.getElem?_drop, show min n S + (t - min n S) = t by omega, Array.getElem?_toList]
      exact hcu t ht
  · intro t _
    unfold World.frozen? World.setRow
    simp only [Array.getElem?_modify, hb, if_true, Option.map_some]
    simp
  · exact below_setRow ((Below.refl _ _).alloc (Nat.le_refl _) _) (Nat.le_refl _) _
  · simp [World.setRow]

set_option maxHeartbeats 400000 in
theorem bwidened_row (b o n c S : Nat) (hle : S ≤ 4096) (A : Nat → Int) (w : World) (hf : Fam w b o n A) :
    Calls Tryd.prog 29 #[.slice (some ⟨b, o, none⟩) n c, .int .i64 S] w fun e w' =>
      e = .returned (.slice (some ⟨w.heap.size, 0, none⟩) S S) ∧ Fam w' w.heap.size 0 S (pd n A) ∧ Wrt w' w.heap.size 0 S ∧ Below w.heap.size w w' ∧ w.heap.size < w'.heap.size := by
  have hmk := run_make_row' (P := Tryd.prog) 22 40 (.int .u64 0) 8 Tryd.underlying22 infoU rfl .i64 .i64 S (by omega) (by omega)
  obtain ⟨w2, hcp, f2, r2, b2, s2⟩ := copy_fit w b o n c S A hf
  have F2 : Hid _ := f2
  have R2 : Hid _ := r2
  have B2 : Hid _ := b2
  have S2 : Hid _ := s2
  clear hf f2 r2 b2 s2
  go_enter Tryd.func29, Tryd.ntmps29
  go_wp2_with fail
  go_ret
  exact ⟨rfl, F2.out, R2.out, B2.out, S2.out⟩

/-- A row whose first i numbers, and whose last i ones, are in each other's place. -/
def rv (n i : Nat) (A : Nat → Int) (t : Nat) : Int := if t < i ∨ n - 1 - i < t then A (n - 1 - t) else A t
structure Rev (w wr : World) (g n i : Nat) (A : Nat → Int) : Prop where
  fam : Fam wr g 0 n (rv n i A)
  wrt : Wrt wr g 0 n
  wrote : Wrote (fun b o => b = g ∧ o < n) w wr
theorem Rev.step {w wr : World} {g n i d : Nat} {A : Nat → Int} (h : Rev w wr g n i A) (hd : d + i + 1 = n) (hid : i < d) {x y : Int} (hx : x = A d) (hy : y = A i) : Rev w ((wr.setCell ⟨g, i, none⟩ (.int .u64 x)).setCell ⟨g, d, none⟩ (.int .u64 y)).drew g n (i + 1) A := by
  refine ⟨Fam.drew (((h.fam.setCell_at (j := i) (by omega) (by omega) x).setCell_at (j := d) (by omega) (by omega) y).congr fun t ht => ?_), (h.wrt.setCell _ _).setCell _ _, ((h.wrote.setCell ⟨rfl, by omega⟩ _).setCell ⟨rfl, by omega⟩ _).drew⟩
  by_cases e : t = d
  · subst e
    rw [upd_at, hy]
    unfold rv
    rw [if_pos (by omega), show n - 1 - t = i by omega]
  · rw [upd_off e]
    by_cases e2 : t = i
    · subst e2
      rw [upd_at, hx]
      unfold rv
      rw [if_pos (by omega), show n - 1 - t = d by omega]
    · rw [upd_off e2]
      unfold rv
      by_cases h3 : t < i ∨ n - 1 - i < t
      · rw [if_pos h3, if_pos (by omega)]
      · rw [if_neg h3, if_neg (by omega)]

set_option maxHeartbeats 1000000 in
theorem reverse_row (g n c : Nat) (h1 : 1 ≤ n) (hle : n ≤ 4096) (A : Nat → Int) (w : World) (hf : Fam w g 0 n A) (hw : Wrt w g 0 n) :
    Calls Tryd.prog 30 #[.slice (some ⟨g, 0, none⟩) n c] w fun e w' =>
      (∃ v, e = .returned v) ∧ Fam w' g 0 n (fun t => A (n - 1 - t)) ∧ Wrote (fun b o => b = g ∧ o < n) w w' := by
  have R0 : Hid (Rev w w g n 0 A) := ⟨hf.congr (fun t ht => by unfold rv; rw [if_neg (by omega)]), hw, Wrote.refl _ _⟩
  obtain ⟨d0, hd0⟩ : ∃ d, d + 1 = n := ⟨n - 1, by omega⟩
  have hdI : (n : Int) - 1 = (d0 : Int) := by omega
  clear hf hw
  go_enter Tryd.func30, Tryd.ntmps30
  go_wp2_with fail
  go_loopw [2, 3] (fun vi vj wr => ∃ i d : Nat, d + i + 1 = n ∧ i ≤ d + 1 ∧ vi = .int .i64 i ∧ vj = .int .i64 d ∧ Rev w wr g n i A) (fun vi vj _ => (intOf vj - intOf vi).toNat)
  case atStart => exact ⟨0, d0, by omega, by omega, rfl, rfl, R0.out⟩
  case round =>
    obtain ⟨i, d, hd, hid, rfl, rfl, hR⟩ := hrel
    have HR : Hid _ := hR
    by_cases hlt : i < d
    · have hci : wr.cell? ⟨g, i, none⟩ = some (.int .u64 (A i)) := by rw [hR.fam.zero i (by omega)]; unfold rv; rw [if_neg (by omega)]
      have hcd : wr.cell? ⟨g, d, none⟩ = some (.int .u64 (A d)) := by rw [hR.fam.zero d (by omega)]; unfold rv; rw [if_neg (by omega)]
      have hfi := hR.wrt.zero i (by omega)
      have hfd := hR.wrt.zero d (by omega)
      have HS : Hid _ := HR.out.step hd hlt (x := A d) (y := A i) rfl rfl
      have hltI : (i : Int) < (d : Int) := by omega
      have hin : (i : Int) < (n : Int) := by omega
      have hdn : (d : Int) < (n : Int) := by omega
      have hne : i ≠ d := by omega
      have hi0 : (0 : Int) ≤ (i : Int) := by omega
      have hd0' : (0 : Int) ≤ (d : Int) := by omega
      obtain ⟨d', hd'⟩ : ∃ d', d' + 1 = d := ⟨d - 1, by omega⟩
      have hdd : (d : Int) - 1 = (d' : Int) := by omega
      clear hR HR
      go_wp2_with fail
      go_region
      all_goals
        go_wp2_with fail
        go_roundw
        case rel => exact ⟨i + 1, d', by omega, by omega, by go_num, rfl, HS.out⟩
        case measure => simp [intOf]; omega
    · have hltI : ¬ (i : Int) < (d : Int) := by omega
      have hF : Fam wr g 0 n (fun t => A (n - 1 - t)) := hR.fam.congr fun t ht => by
        unfold rv
        by_cases h3 : t < i ∨ n - 1 - i < t
        · rw [if_pos h3]
        · rw [if_neg h3, show n - 1 - t = t by omega]
      have HF : Hid _ := hF
      clear hF hR
      go_wp2_with fail
      go_end0
      exact ⟨⟨_, rfl⟩, HF.out, HR.out.wrote⟩
end Go.Proofs.YtdffofpoilfhiaaDoor
