/- A 'Got' in a box; contracts of beagleref13.Escape and item. -/
import Derived.Test.YtbnnobeahliffaaGreatDoorTkA
namespace Go.Proofs.YtbnnobeahliffaaGreatDoor
open Go.RowKit
namespace Cls

/-- What is got: a byte, a class by its words, elements, a number, a place, an error. -/
def gotv (b x y z u : Int) (P : Value) (n nx e : Int) : Value := .agg #[.int .u8 b, .int .u64 x, .int .u64 y, .int .u64 z, .int .u64 u, P, .int .i64 n, .int .i64 nx, .int .i64 e]

/-- Nine cells of a block. -/
structure G9 (w : World) (g : Nat) (v0 v1 v2 v3 v4 v5 v6 v7 v8 : Value) : Prop where
  c0 : w.cell? ⟨g, 0, none⟩ = some v0
  c1 : w.cell? ⟨g, 1, none⟩ = some v1
  c2 : w.cell? ⟨g, 2, none⟩ = some v2
  c3 : w.cell? ⟨g, 3, none⟩ = some v3
  c4 : w.cell? ⟨g, 4, none⟩ = some v4
  c5 : w.cell? ⟨g, 5, none⟩ = some v5
  c6 : w.cell? ⟨g, 6, none⟩ = some v6
  c7 : w.cell? ⟨g, 7, none⟩ = some v7
  c8 : w.cell? ⟨g, 8, none⟩ = some v8

/-- A new box for what is got. -/
def got0 : Obj := .cells #[.int .u8 0, .int .u64 0, .int .u64 0, .int .u64 0, .int .u64 0, .slice none 0 0, .int .i64 0, .int .i64 0, .int .i64 0] 80

theorem g9_new (w : World) : G9 (w.alloc got0) w.heap.size (.int .u8 0) (.int .u64 0) (.int .u64 0) (.int .u64 0) (.int .u64 0) (.slice none 0 0) (.int .i64 0) (.int .i64 0) (.int .i64 0) := by
  have hb : (w.alloc got0).heap[w.heap.size]? = some got0 := World.alloc_heap_new w _
  unfold got0 at hb ⊢
  constructor
  all_goals
    unfold World.cell?
    rw [hb]
    rfl

theorem g9_free (w : World) (t : Nat) : (w.alloc got0).frozen? ⟨w.heap.size, t, none⟩ = false := by
  have hb : (w.alloc got0).heap[w.heap.size]? = some got0 := World.alloc_heap_new w _
  unfold got0 at hb ⊢
  unfold World.frozen?
  rw [hb]
  simp

/-- Nine cells, written. -/
def set9 (v : World) (g : Nat) (x0 x1 x2 x3 x4 x5 x6 x7 x8 : Value) : World :=
  ((((((((v.setCell ⟨g, 0, none⟩ x0).setCell ⟨g, 1, none⟩ x1).setCell ⟨g, 2, none⟩ x2).setCell ⟨g, 3, none⟩ x3).setCell ⟨g, 4, none⟩ x4).setCell ⟨g, 5, none⟩ x5).setCell ⟨g, 6, none⟩ x6).setCell ⟨g, 7, none⟩ x7).setCell ⟨g, 8, none⟩ x8

/-- Cells of a block, as a function. -/
def Cv (w : World) (g n : Nat) (F : Nat → Value) : Prop := ∀ t, t < n → w.cell? ⟨g, t, none⟩ = some (F t)

theorem Cv.put {w : World} {g n : Nat} {F : Nat → Value} (h : Cv w g n F) (j : Nat) (x : Value) : Cv (w.setCell ⟨g, j, none⟩ x) g n (fun t => if t = j then x else F t) := fun t ht => by
  show _ = some (if t = j then x else F t)
  by_cases e : t = j
  · subst e
    rw [if_pos rfl]
    exact World.cell?_setCell_same w _ _ (h t ht)
  · rw [if_neg e, World.cell?_setCell_other w _ _ _ (fun hh => e (by injection hh with _ hh; exact hh.symm))]
    exact h t ht

theorem G9.set {v : World} {g : Nat} {v0 v1 v2 v3 v4 v5 v6 v7 v8 : Value} (h : G9 v g v0 v1 v2 v3 v4 v5 v6 v7 v8) (x0 x1 x2 x3 x4 x5 x6 x7 x8 : Value) : G9 (set9 v g x0 x1 x2 x3 x4 x5 x6 x7 x8) g x0 x1 x2 x3 x4 x5 x6 x7 x8 := by
  have hF : Cv v g 9 (fun t => match t with | 0 => v0 | 1 => v1 | 2 => v2 | 3 => v3 | 4 => v4 | 5 => v5 | 6 => v6 | 7 => v7 | _ => v8) := fun t ht => by
    match t, ht with
    | 0, _ => exact h.c0
    | 1, _ => exact h.c1
    | 2, _ => exact h.c2
    | 3, _ => exact h.c3
    | 4, _ => exact h.c4
    | 5, _ => exact h.c5
    | 6, _ => exact h.c6
    | 7, _ => exact h.c7
    | 8, _ => exact h.c8
  have hG := ((((((((hF.put 0 x0).put 1 x1).put 2 x2).put 3 x3).put 4 x4).put 5 x5).put 6 x6).put 7 x7).put 8 x8
  exact ⟨hG 0 (by decide), hG 1 (by decide), hG 2 (by decide), hG 3 (by decide), hG 4 (by decide), hG 5 (by decide), hG 6 (by decide), hG 7 (by decide), hG 8 (by decide)⟩

theorem set9_below {B : Nat} {w v : World} (h : Below B w v) {g : Nat} (hg : B ≤ g) (x0 x1 x2 x3 x4 x5 x6 x7 x8 : Value) : Below B w (set9 v g x0 x1 x2 x3 x4 x5 x6 x7 x8) :=
  ((((((((h.setCell (p := ⟨g, 0, none⟩) hg x0).setCell (p := ⟨g, 1, none⟩) hg x1).setCell (p := ⟨g, 2, none⟩) hg x2).setCell (p := ⟨g, 3, none⟩) hg x3).setCell (p := ⟨g, 4, none⟩) hg x4).setCell (p := ⟨g, 5, none⟩) hg x5).setCell (p := ⟨g, 6, none⟩) hg x6).setCell (p := ⟨g, 7, none⟩) hg x7).setCell (p := ⟨g, 8, none⟩) hg x8

theorem results_got {fn : Func} {p : Tmp} (h : fn.results = #[.cell p 80]) (tmps : Array Value) (v : World) (g : Nat) {v0 v1 v2 v3 v4 v5 v6 v7 v8 : Value} (hp : tmps.getD p undef = .pointer (some ⟨g, 0, none⟩)) (hG : G9 v g v0 v1 v2 v3 v4 v5 v6 v7 v8) :
    (results fn tmps).run Tryz.prog v = .ok (.agg #[v0, v1, v2, v3, v4, v5, v6, v7, v8]) v := by
  have hp' : tmps[p]?.getD undef = .pointer (some ⟨g, 0, none⟩) := by simpa using hp
  obtain ⟨c0, c1, c2, c3, c4, c5, c6, c7, c8⟩ := hG
  simp [results, h, hp', asAddr, go_sem, c0, c1, c2, c3, c4, c5, c6, c7, c8]

end Cls
end Go.Proofs.YtbnnobeahliffaaGreatDoor
