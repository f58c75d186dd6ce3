/- A new row of numbers while it is filled. -/
import Derived.Test.YtlogdjhnhnfbkaaDoorNttFill
import Derived.Test.YtlogdjhnhnfbkaaDoorMem
import Derived.Test.YtlogdjhnhnfbkaaDoorClsA
namespace Go.Proofs.YtlogdjhnhnfbkaaDoor
open Go.RowKit Res
namespace Cls

/-- A new row while it is being filled. -/
structure Fu (w wr : World) (b n k : Nat) (F : Nat → Int) : Prop where
  bel : Below w.heap.size w wr
  lt : b < wr.heap.size
  fam : Fam wr b 0 n (mix k F (fun _ => 0))
  wrt : Wrt wr b 0 n

theorem Fu.grow {w wr w' : World} {b n k : Nat} {F : Nat → Int} (h : Fu w wr b n k F) (hb : Below wr.heap.size wr w') : Fu w w' b n k F :=
  ⟨h.bel.trans (hb.mono h.bel.size), Nat.lt_of_lt_of_le h.lt hb.size, h.fam.below hb h.lt, h.wrt.below hb h.lt⟩

theorem Fu.put {w wr : World} {b n k : Nat} {F : Nat → Int} (h : Fu w wr b n k F) (hb : w.heap.size ≤ b) (hk : k < n) {x : Int} (hx : x = F k) : Fu w (wr.setCell ⟨b, k, none⟩ (.int .u64 x)) b n (k + 1) F := by
  have hw : Wrote (fun b' _ => b' = b) wr (wr.setCell ⟨b, k, none⟩ (.int .u64 x)) := (Wrote.refl (fun b' _ => b' = b) wr).setCell rfl _
  refine ⟨h.bel.trans (hw.below (fun b' o e => by omega)), by rw [hw.size]; exact h.lt, (h.fam.setCell_at hk (by omega) x).congr (fun t _ => ?_), h.wrt.setCell _ _⟩
  by_cases e : t = k
  · subst e; rw [upd_at, mix_lo (by omega)]; exact hx
  · rw [upd_off e]
    by_cases e2 : t < k
    · rw [mix_lo e2, mix_lo (by omega)]
    · rw [mix_hi (by omega), mix_hi (by omega)]

theorem Fu.cell {w wr : World} {b n k : Nat} {F : Nat → Int} (h : Fu w wr b n k F) (hk : k < n) : wr.cell? ⟨b, k, none⟩ = some (.int .u64 0) := by
  rw [h.fam.zero k hk, mix_hi (Nat.le_refl _)]

/-- A new row is told. -/
def New (w : World) (n : Nat) (F : Nat → Int) (e : Ending) (w' : World) : Prop :=
  ∃ g, e = .returned (.slice (some ⟨g, 0, none⟩) n n) ∧ Fam w' g 0 n F ∧ w.heap.size ≤ g ∧ g < w'.heap.size ∧ Below w.heap.size w w'

theorem Fu.new {w wr : World} {b n : Nat} {F : Nat → Int} (h : Fu w wr b n n F) (hb : w.heap.size ≤ b) : New w n F (.returned (.slice (some ⟨b, 0, none⟩) n n)) wr :=
  ⟨b, rfl, h.fam.congr (fun _ ht => mix_lo ht), hb, h.lt, h.bel⟩

/-- What 'make' lays. -/
theorem fu_made (w v : World) (n : Nat) (F : Nat → Int) (hb : Below w.heap.size w v) : Fu w (v.alloc (.cells (madeCells #[.int .u64 0] n) 49)) v.heap.size n 0 F :=
  ⟨hb.alloc hb.size _, by rw [size_alloc]; omega, by rw [mix_zero]; exact fam_made v n _, wrt_made v n _⟩

theorem makeU (n : Nat) (hn : n ≤ 1000000) (w : World) : (Instr.makeSlice 82 (.int .i64 (n : Int)) (.int .i64 (n : Int))).run Tryd.prog w = .ok (.slice (some ⟨w.heap.size, 0, none⟩) n n) (w.alloc (.cells (madeCells #[.int .u64 0] n) 49)) :=
  run_make_row' (P := Tryd.prog) 82 49 (.int .u64 0) 8 Tryd.underlying82 infoU rfl .i64 .i64 n (by omega) (by omega) w

theorem Fu.skip {w wr : World} {b n k : Nat} {F : Nat → Int} (h : Fu w wr b n k F) (h0 : F k = 0) : Fu w wr b n (k + 1) F := by
  refine ⟨h.bel, h.lt, h.fam.congr (fun t _ => ?_), h.wrt⟩
  by_cases e : t = k
  · subst e; rw [mix_hi (Nat.le_refl _), mix_lo (by omega), h0]
  · by_cases e2 : t < k
    · rw [mix_lo e2, mix_lo (by omega)]
    · rw [mix_hi (by omega), mix_hi (by omega)]

end Cls
end Go.Proofs.YtlogdjhnhnfbkaaDoor
