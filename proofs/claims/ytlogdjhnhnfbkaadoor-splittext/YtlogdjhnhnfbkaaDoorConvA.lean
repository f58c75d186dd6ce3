/- Contracts of conv.Size, conv.Greatest and of the document's own. Contracts of conv.errorOf and of the document's own Check. Contract of the document's own Check. Contracts of conv.productOf: of the row, and of the row turned; and of the two closures. Contract of conv.School, of any rows. Contracts of slices.Clone (of a row that is not empty) and of conv.Correlate, of any rows. Contracts of conv.widened and of conv.Fast, of any rows. Contracts of the document's own Product, Slide, Correlate, of any rows. -/
import Derived.Test.YtlogdjhnhnfbkaaDoorMathA
import Derived.Test.YtlogdjhnhnfbkaaDoorCrtA
import Derived.Test.YtlogdjhnhnfbkaaDoorNttLog
import Derived.Test.YtlogdjhnhnfbkaaDoorNttFill
import Derived.Test.YtlogdjhnhnfbkaaDoorMem
import Derived.Test.YtlogdjhnhnfbkaaDoorCrtBits
import Derived.Test.YtlogdjhnhnfbkaaDoorNttA
import Derived.Lib.LazyBuf
import Derived.Laws.CopyOwn
import Derived.Deep.QuietTactic
import Derived.BigQuiet

namespace Go.Proofs.YtlogdjhnhnfbkaaDoor
open Go.RowKit Res

set_option maxHeartbeats 400000 in
theorem greatest_any (ao : Option Addr) (n c : Nat) (hn : n ≤ 1152921504606846976) (L : Nat → Int) (w : World) (hl : Lies w ao n L) :
    Calls Tryd.prog 92 #[.slice ao n c] w fun e w' => e = .returned (.int .u64 (gr n L)) ∧ w' = w := by
  have HL : Hid (Lies w ao n L) := hl
  clear hl
  have hst : Hid (∀ i, (if gr i L < L i then L i else gr i L) = gr (i + 1) L) := fun i => rfl
  have h00 : Hid (gr 0 L = 0) := rfl
  generalize hG : (fun i => gr i L) = G at *
  have hGe : ∀ i, gr i L = G i := fun i => by rw [← hG]
  simp only [hGe] at hst h00 ⊢
  clear hG hGe
  go_enter Tryd.func92, Tryd.ntmps92
  go_wp2_with fail
  go_loop [3, 8] (fun vg vi => ∃ i : Nat, i ≤ n ∧ vi = .int .i64 i ∧ vg = .int .u64 (G i)) (fun _ vi => n - (intOf vi).toNat)
  case atStart => exact ⟨0, Nat.zero_le _, rfl, by rw [h00.out]⟩
  case round =>
    obtain ⟨i, hi, rfl, rfl⟩ := hrel
    by_cases hlt : i < n
    · obtain ⟨b, o, rfl, hf⟩ := HL.out (by omega)
      have hc := hf i hlt
      clear hf
      go_wp2_with fail
      go_round
      case rel => exact ⟨i + 1, by omega, by go_num, by rw [hst.out]⟩
      case measure => simp [intOf]; omega
    · obtain rfl : i = n := by omega
      go_wp2_with fail
      go_ret
      exact ⟨rfl, rfl⟩

end Go.Proofs.YtlogdjhnhnfbkaaDoor

namespace Go.Proofs.YtlogdjhnhnfbkaaDoor
open Go.RowKit Res

theorem Lies.drewN {w : World} {ao : Option Addr} {n : Nat} {L : Nat → Int} (h : Lies w ao n L) (q : Nat) : Lies (w.drewN q) ao n L := h

end Go.Proofs.YtlogdjhnhnfbkaaDoor

namespace Go.Proofs.YtlogdjhnhnfbkaaDoor
open Go.RowKit Res

end Go.Proofs.YtlogdjhnhnfbkaaDoor

namespace Go.Proofs.YtlogdjhnhnfbkaaDoor
open Go.RowKit Res

end Go.Proofs.YtlogdjhnhnfbkaaDoor

namespace Go.Proofs.YtlogdjhnhnfbkaaDoor
open Go.RowKit Res

/-- What is told: N numbers, F's, and an error's number. -/
def Told (w : World) (N : Nat) (F : Nat → Int) (c : Int) (e : Ending) (w' : World) : Prop :=
  ∃ ao cap, e = .returned (.tuple #[.slice ao N cap, .int .i64 c]) ∧ Lies w' ao N F ∧ Below w.heap.size w w'
theorem Told.nil {w w' : World} {F : Nat → Int} {c : Int} {N : Nat} (hN : N = 0) (hb : Below w.heap.size w w') : Told w N F c (.returned (.tuple #[.slice none 0 0, .int .i64 c])) w' := by
  subst hN
  exact ⟨_, _, rfl, fun h => by omega, hb⟩
theorem Told.row {w w' : World} {F : Nat → Int} {c : Int} {N M g cap : Nat} (hN : N = M) (hf : Fam w' g 0 M F) (hb : Below w.heap.size w w') : Told w N F c (.returned (.tuple #[.slice (some ⟨g, 0, none⟩) M cap, .int .i64 c])) w' := by
  subst hN
  exact ⟨_, _, rfl, fun _ => ⟨g, 0, rfl, hf⟩, hb⟩

/-- A box that holds a slice. -/
structure BoxS (w v : World) (x : Value) (ty : TypeId) : Prop where
  eq : v = w.alloc (.cells #[x] ty)
  cell : v.cell? ⟨w.heap.size, 0, none⟩ = some x
  bel : Below w.heap.size w v
  size : w.heap.size < v.heap.size
theorem boxS (w : World) (x : Value) (ty : TypeId) : ∃ v, BoxS w v x ty :=
  ⟨_, rfl, by simp, (Below.refl _ _).alloc (Nat.le_refl _) _, by rw [size_alloc]; omega⟩

end Go.Proofs.YtlogdjhnhnfbkaaDoor

namespace Go.Proofs.YtlogdjhnhnfbkaaDoor
open Go.RowKit Res

theorem cells_at {w : World} {b o n : Nat} {L : Nat → Int} (h : Fam w b o n L) : ∀ j u, (cellsOf L n)[j]? = some u → w.cell? ((⟨b, o, none⟩ : Addr).add j) = some u := by
  intro j u hu
  have hj : j < n := by
    rcases Nat.lt_or_ge j n with h0 | h0
    · exact h0
    · rw [List.getElem?_eq_none (by simp [cellsOf]; omega)] at hu; cases hu
  rw [show (⟨b, o, none⟩ : Addr).add j = ⟨b, o + j, none⟩ by unfold Addr.add; split <;> simp_all, h j hj, ← hu]
  simp [cellsOf, hj]
theorem cells_one (L : Nat → Int) (n : Nat) : ∀ u ∈ cellsOf L n, u.oneCell' = true := by
  intro u hu
  simp [cellsOf] at hu
  obtain ⟨_, _, rfl⟩ := hu
  rfl
theorem empty_own (w : World) : (w.alloc (.cells #[] 49)).ownsRow w.heap.size 49 1 (.slice (some ⟨w.heap.size, 0, none⟩) 0 0) 0 [] := World.ownsRow_lit w #[] 0 (Nat.le_refl _) (by unfold maxLen; omega) rfl
theorem empty_grown {w v1 : World} (hg : (w.alloc (.cells #[] 49)).grownBy v1 (Value.ownBlock (.slice (some ⟨w.heap.size, 0, none⟩) 0 0))) : Below w.heap.size w v1 :=
  ((Below.refl w.heap.size w).alloc (Nat.le_refl _) (.cells #[] 49)).grown hg (by show _ ≤ (w.heap.push _).size; simp) (fun k hk => by simp [Value.ownBlock] at hk; omega)

end Go.Proofs.YtlogdjhnhnfbkaaDoor

namespace Go.Proofs.YtlogdjhnhnfbkaaDoor
open Go.RowKit Res

theorem pd_nonneg {n : Nat} {A : Nat → Int} (h : ∀ t, 0 ≤ A t) (t : Nat) : 0 ≤ pd n A t := by
  unfold pd; split
  · exact h t
  · exact Int.le_refl 0
/-- A row laid over zeros. -/
theorem copy_made (w : World) (b o n c S : Nat) (hS : n ≤ S) (A : Nat → Int) (hf : Fam w b o n A) :
    ∃ w2, (Builtin.copy_ #[82, 82] 3 #[.slice (some ⟨w.heap.size, 0, none⟩) S S, .slice (some ⟨b, o, none⟩) n c]).run Tryd.prog (w.alloc (.cells (madeCells #[.int .u64 0] S) 49)) = .ok (.int .i64 n) w2 ∧ Fam w2 w.heap.size 0 S (pd n A) ∧ Below w.heap.size w w2 ∧ w.heap.size < w2.heap.size := by
  obtain ⟨cu, hb, hnl, hcu⟩ := World.rowIs_made w (.int .u64 0) S 49
  have hlen : (cellsOf A n).length = n := by simp [cellsOf]
  have hr := run_copy_row (P := Tryd.prog) (w.alloc (.cells (madeCells #[.int .u64 0] S) 49)) 82 82 3 49 w.heap.size 0 S S ⟨b, o, none⟩ n c cu 49 (cellsOf A n) Tryd.underlying82 (by kernel_rfl) hb (by rw [hlen]; exact (Nat.min_eq_left hS).symm) (cells_at (hf.alloc _)) (by rw [hlen, hnl]; omega) (cells_one A n)
  rw [hlen] at hr
  refine ⟨_, hr, ?_, ?_, ?_⟩
  · intro t ht
    rw [cell_setRow_same _ _ _ cu _ 49 (0, 0) hb, Nat.zero_add t]
    unfold pd
    have e : ((cu.toList.take 0 ++ cellsOf A n ++ cu.toList.drop (0 + n)).toArray)[t]? = (cellsOf A n ++ cu.toList.drop n)[t]? := by simp
    rw [e]
    by_cases h2 : t < n
    · rw [List.getElem?_append_left (by omega), if_pos h2]
      simp [cellsOf, h2]
    · rw [List.getElem?_append_right (by omega), if_neg h2, hlen, List.getElem?_drop, show n + (t - n) = t by omega, Array.getElem?_toList]
      exact hcu t ht
  · exact below_setRow ((Below.refl _ _).alloc (Nat.le_refl _) _) (Nat.le_refl _) _
  · simp [World.setRow]

/-- The box of the three rows: k of them are there. -/
structure Three (wc wr : World) (R k N S : Nat) (F : Nat → Nat → Int) : Prop where
  have_ : ∀ i, i < k → ∃ g, wr.cell? ⟨R, i, none⟩ = some (.slice (some ⟨g, 0, none⟩) N S) ∧ Fam wr g 0 N (F i) ∧ R < g ∧ g < wr.heap.size
  bare : ∀ i, k ≤ i → i < 3 → wr.cell? ⟨R, i, none⟩ = some (.slice none 0 0)
  wrt : Wrt wr R 0 3
  bel : Below R wc wr
  lt : R < wr.heap.size
theorem Three.step {wc wr w' : World} {R k N S g : Nat} {F : Nat → Nat → Int} {G : Nat → Int} (h : Three wc wr R k N S F) (hk : k < 3) (hb : Below wr.heap.size wr w') (hg : wr.heap.size ≤ g) (hgl : g < w'.heap.size) (hf : Fam w' g 0 S G) (hN : N ≤ S) (hF : ∀ t, t < N → G t = F k t) :
    Three wc (w'.setCell ⟨R, k, none⟩ (.slice (some ⟨g, 0, none⟩) N S)) R (k + 1) N S F := by
  have hlt := h.lt
  have hsz : (w'.setCell ⟨R, k, none⟩ (.slice (some ⟨g, 0, none⟩) N S)).heap.size = w'.heap.size := (Wrote.setCell (S := fun b _ => b = R) (Wrote.refl _ w') rfl _).size
  refine ⟨fun i hi => ?_, fun i h1 h2 => ?_, ?_, ?_, ?_⟩
  · by_cases e : i = k
    · subst e
      refine ⟨g, ?_, ?_, by omega, by omega⟩
      · have hc : w'.cell? ⟨R, i, none⟩ = some (.slice none 0 0) := (hb.cell (p := ⟨R, i, none⟩) hlt).trans (h.bare i (Nat.le_refl _) hk)
        exact World.cell?_setCell_same _ _ _ hc
      · exact ((hf.head N hN).congr hF).setCell_ne (by omega) _
    · obtain ⟨g', hc, hf', h3, h4⟩ := h.have_ i (by omega)
      refine ⟨g', ?_, (hf'.below hb h4).setCell_ne (by omega) _, h3, by have := hb.size; omega⟩
      rw [cell_setCell_ne _ _ _ _ _ _ (Or.inr e)]
      exact (hb.cell (p := ⟨R, i, none⟩) hlt).trans hc
  · rw [cell_setCell_ne _ _ _ _ _ _ (Or.inr (by omega))]
    exact (hb.cell (p := ⟨R, i, none⟩) hlt).trans (h.bare i (by omega) h2)
  · exact (h.wrt.below hb hlt).setCell _ _
  · exact h.bel.trans ((hb.mono (Nat.le_of_lt hlt)).trans ((Wrote.setCell (S := fun b _ => b = R) (Wrote.refl _ w') rfl _).below (fun b o e => by omega)))
  · have := hb.size; omega
theorem three_new (wb : World) (N S : Nat) (F : Nat → Nat → Int) (ty : TypeId) : ∃ wc, wc = wb.alloc (.cells #[.slice none 0 0, .slice none 0 0, .slice none 0 0] ty) ∧ Three wc wc wb.heap.size 0 N S F ∧ Below wb.heap.size wb wc := by
  refine ⟨_, rfl, ⟨fun i hi => by omega, fun i _ h => ?_, fun i h => ?_, Below.refl _ _, by rw [size_alloc]; omega⟩, (Below.refl _ _).alloc (Nat.le_refl _) _⟩
  · have : i = 0 ∨ i = 1 ∨ i = 2 := by omega
    rcases this with rfl | rfl | rfl <;> simp
  · simp
theorem pr_ne (k : Nat) (hk : k < 3) : pr (k : Int) ≠ 0 := by
  have : k = 0 ∨ k = 1 ∨ k = 2 := by omega
  rcases this with rfl | rfl | rfl <;> decide

end Go.Proofs.YtlogdjhnhnfbkaaDoor

namespace Go.Proofs.YtlogdjhnhnfbkaaDoor
open Go.RowKit Res

theorem Own.told {w w' : World} {N : Nat} {F : Nat → Int} {v : Value} {M : Nat} (hM : M = N) (h : Own w' w.heap.size v N F) (hb : Below w.heap.size w w') : ∃ ao cap, v = .slice ao N cap ∧ Told w M F 0 (.returned (.tuple #[v, .int .i64 0])) w' := by
  subst hM
  by_cases h1 : 1 ≤ M
  · obtain ⟨g, cap, rfl, _, _, hf, _⟩ := own_fam h h1
    exact ⟨_, _, rfl, Told.row rfl hf hb⟩
  · obtain ⟨ao, c, rfl⟩ := own_slice h
    exact ⟨_, _, rfl, _, _, rfl, fun h => absurd h h1, hb⟩
theorem Own.drewN {w : World} {B j : Nat} {v : Value} {D : Nat → Int} (h : Own w B v j D) (q : Nat) : Own (w.drewN q) B v j D := h

theorem cr_part {n : Nat} {p t : Nat → Int} (hp : ∀ i, 0 ≤ p i) (ht : ∀ i, 0 ≤ t i) (i j : Nat) (hj : j ≤ n) : sm j (fun j => p j * t (i + j)) ≤ cr n p t i := sm_mono hj (fun _ _ => Int.mul_nonneg (hp _) (ht _))

end Go.Proofs.YtlogdjhnhnfbkaaDoor
