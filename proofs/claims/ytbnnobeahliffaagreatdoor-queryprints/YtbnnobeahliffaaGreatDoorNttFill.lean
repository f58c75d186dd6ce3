/- Rows that are filled from their beginning on; rows that 'make' lays. Nothing of the program. -/
import Derived.Test.YtbnnobeahliffaaGreatDoorNttRows
import Derived.Deep.OwnRows
namespace Go.Proofs.YtbnnobeahliffaaGreatDoor
open Go.RowKit

def mix (i : Nat) (L G : Nat → Int) : Nat → Int := fun t => if t < i then L t else G t
theorem mix_zero (L G : Nat → Int) : mix 0 L G = G := by funext t; simp [mix]
theorem mix_lo {i t : Nat} {L G : Nat → Int} (h : t < i) : mix i L G t = L t := if_pos h
theorem mix_hi {i t : Nat} {L G : Nat → Int} (h : i ≤ t) : mix i L G t = G t := if_neg (by omega)
/-- Of a row of n numbers at the head of block b the first i are L's, the others G's; nothing else was turned since w1. -/
structure Fill (w1 wr : World) (b n i : Nat) (L G : Nat → Int) : Prop where
  fam : Fam wr b 0 n (mix i L G)
  wrt : Wrt wr b 0 n
  wrote : Wrote (fun b' _ => b' = b) w1 wr
theorem Fill.start {w1 : World} {b n : Nat} {G : Nat → Int} (L : Nat → Int) (h : Fam w1 b 0 n G) (hw : Wrt w1 b 0 n) : Fill w1 w1 b n 0 L G :=
  ⟨by rw [mix_zero]; exact h, hw, Wrote.refl _ _⟩
theorem Fill.drewN {w1 wr : World} {b n i : Nat} {L G : Nat → Int} (h : Fill w1 wr b n i L G) (q : Nat) : Fill w1 (wr.drewN q) b n i L G := ⟨h.fam, h.wrt, h.wrote.drewN q⟩
theorem Fill.drew {w1 wr : World} {b n i : Nat} {L G : Nat → Int} (h : Fill w1 wr b n i L G) : Fill w1 wr.drew b n i L G := ⟨h.fam, h.wrt, h.wrote.drew⟩
theorem Fill.step {w1 wr : World} {b n i : Nat} {L G : Nat → Int} (h : Fill w1 wr b n i L G) (hi : i < n) {x : Int} (hx : x = L i) : Fill w1 (wr.setCell ⟨b, i, none⟩ (.int .u64 x)) b n (i + 1) L G := by
  refine ⟨(h.fam.setCell_at hi (by omega) x).congr (fun t ht => ?_), h.wrt.setCell _ _, h.wrote.setCell rfl _⟩
  by_cases e : t = i
  · subst e; rw [upd_at, mix_lo (by omega)]; exact hx
  · rw [upd_off e]
    by_cases e2 : t < i
    · rw [mix_lo e2, mix_lo (by omega)]
    · rw [mix_hi (by omega), mix_hi (by omega)]
theorem Fill.fin {w1 wr : World} {b n i : Nat} {L G : Nat → Int} (h : Fill w1 wr b n i L G) (hi : n ≤ i) : Fam wr b 0 n L := h.fam.congr (fun t ht => mix_lo (by omega))
/-- As the walk reads it. -/
theorem Fam.zero {w : World} {b n : Nat} {G : Nat → Int} (h : Fam w b 0 n G) : ∀ t, t < n → w.cell? ⟨b, t, none⟩ = some (.int .u64 (G t)) := fun t ht => by have := h t ht; rwa [Nat.zero_add] at this
theorem Wrt.zero {w : World} {b n : Nat} (h : Wrt w b 0 n) : ∀ t, t < n → w.frozen? ⟨b, t, none⟩ = false := fun t ht => by have := h t ht; rwa [Nat.zero_add] at this
/-- What 'make' lays. -/
theorem fam_made (w : World) (n : Nat) (t : TypeId) : Fam (w.alloc (.cells (madeCells #[.int .u64 0] n) t)) w.heap.size 0 n (fun _ => 0) := by
  obtain ⟨c, hb, hn, hc⟩ := World.rowIs_made w (.int .u64 0) n t
  intro i hi
  rw [Nat.zero_add]
  unfold World.cell?
  rw [hb]
  exact hc i hi
theorem wrt_made (w : World) (n : Nat) (t : TypeId) : Wrt (w.alloc (.cells (madeCells #[.int .u64 0] n) t)) w.heap.size 0 n := by
  obtain ⟨c, hb, hn, hc⟩ := World.rowIs_made w (.int .u64 0) n t
  intro i hi
  unfold World.frozen?
  rw [hb]
  simp
theorem Fam.alloc {w : World} {b o n : Nat} {G : Nat → Int} (h : Fam w b o n G) (ob : Obj) : Fam (w.alloc ob) b o n G := fun t ht => by
  have := h t ht
  rw [World.cell?_alloc_lt _ _ _ (World.block_lt_of_cell? w _ this)]; exact this
theorem Wrt.alloc {w : World} {b o n : Nat} (h : Wrt w b o n) (hb : b < w.heap.size) (ob : Obj) : Wrt (w.alloc ob) b o n := fun t ht => by
  rw [World.frozen?_alloc_past _ _ _ hb]; exact h t ht
end Go.Proofs.YtbnnobeahliffaaGreatDoor
