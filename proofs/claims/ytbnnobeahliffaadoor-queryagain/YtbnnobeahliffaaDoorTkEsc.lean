/- Contracts of beagleref13.Escape and item. (Written by mktk.py.) -/
import Derived.Test.YtbnnobeahliffaaDoorTkGot
import Derived.Test.YtbnnobeahliffaaDoorLfAl
set_option linter.unusedVariables false
namespace Go.Proofs.YtbnnobeahliffaaDoor
open Go.RowKit
namespace Cls

/-- What is read of a byte, as a 'Got'. -/
def rdb : Rd Nat → Value
  | .ok (b, n) => gotv (b : Int) 0 0 0 0 (.slice none 0 0) 0 (n : Int) 0
  | .error (p, c) => gotv 0 0 0 0 0 (.slice none 0 0) 0 (p : Int) (c : Int)

/-- A box for what is got: it may be written. -/
structure Gb (w v : World) (g : Nat) : Prop where
  bel : Below w.heap.size w v
  low : w.heap.size ≤ g
  hi : g < v.heap.size
  c : ∃ v0 v1 v2 v3 v4 v5 v6 v7 v8, G9 v g v0 v1 v2 v3 v4 v5 v6 v7 v8
  f : ∀ t, v.frozen? ⟨g, t, none⟩ = false

theorem Gb.grow {w v v' : World} {g : Nat} (h : Gb w v g) (b : Below v.heap.size v v') : Gb w v' g := by
  obtain ⟨v0, v1, v2, v3, v4, v5, v6, v7, v8, hc⟩ := h.c
  have c := fun (t : Nat) => b.cell (p := ⟨g, t, none⟩) h.hi
  exact ⟨h.bel.trans (b.mono h.bel.size), h.low, Nat.lt_of_lt_of_le h.hi b.size, ⟨v0, v1, v2, v3, v4, v5, v6, v7, v8, (c 0).trans hc.c0, (c 1).trans hc.c1, (c 2).trans hc.c2, (c 3).trans hc.c3, (c 4).trans hc.c4, (c 5).trans hc.c5, (c 6).trans hc.c6, (c 7).trans hc.c7, (c 8).trans hc.c8⟩, fun t => by rw [b.frozen (p := ⟨g, t, none⟩) h.hi]; exact h.f t⟩

theorem Gb.drew {w v : World} {g : Nat} (h : Gb w v g) : Gb w v.drew g := h.grow (Below.drew (Below.refl _ _))

theorem Gb.keep {w v : World} {g : Nat} (h : Gb w v g) {v0 v1 v2 v3 v4 v5 v6 v7 v8 : Value} (hc : G9 v g v0 v1 v2 v3 v4 v5 v6 v7 v8) (v' : World) (b : Below v.heap.size v v') : G9 v' g v0 v1 v2 v3 v4 v5 v6 v7 v8 ∧ ∀ t, v'.frozen? ⟨g, t, none⟩ = false := by
  have c := fun (t : Nat) => b.cell (p := ⟨g, t, none⟩) h.hi
  exact ⟨⟨(c 0).trans hc.c0, (c 1).trans hc.c1, (c 2).trans hc.c2, (c 3).trans hc.c3, (c 4).trans hc.c4, (c 5).trans hc.c5, (c 6).trans hc.c6, (c 7).trans hc.c7, (c 8).trans hc.c8⟩, fun t => by rw [b.frozen (p := ⟨g, t, none⟩) h.hi]; exact h.f t⟩

theorem Gb.some {w v : World} {g : Nat} (h : Gb w v g) (v' : World) (b : Below v.heap.size v v') : ((v'.cell? ⟨g, 0, none⟩).isSome = true ∧ (v'.cell? ⟨g, 1, none⟩).isSome = true ∧ (v'.cell? ⟨g, 2, none⟩).isSome = true ∧ (v'.cell? ⟨g, 3, none⟩).isSome = true ∧ (v'.cell? ⟨g, 4, none⟩).isSome = true ∧ (v'.cell? ⟨g, 5, none⟩).isSome = true ∧ (v'.cell? ⟨g, 6, none⟩).isSome = true ∧ (v'.cell? ⟨g, 7, none⟩).isSome = true ∧ (v'.cell? ⟨g, 8, none⟩).isSome = true) ∧ ∀ t, v'.frozen? ⟨g, t, none⟩ = false := by
  obtain ⟨v0, v1, v2, v3, v4, v5, v6, v7, v8, hc⟩ := h.c
  obtain ⟨⟨c0, c1, c2, c3, c4, c5, c6, c7, c8⟩, hf⟩ := h.keep hc v' b
  exact ⟨⟨by rw [c0]; rfl, by rw [c1]; rfl, by rw [c2]; rfl, by rw [c3]; rfl, by rw [c4]; rfl, by rw [c5]; rfl, by rw [c6]; rfl, by rw [c7]; rfl, by rw [c8]; rfl⟩, hf⟩

theorem some_set {w : World} {p q : Addr} {x : Value} (h : (w.cell? q).isSome = true) : ((w.setCell p x).cell? q).isSome = true := by
  obtain ⟨u, hu⟩ := Option.isSome_iff_exists.1 h
  obtain ⟨v', h'⟩ := cell?_setCell_some (p := p) (x := x) hu
  rw [h']
  rfl

theorem Gb.set {w v : World} {g : Nat} (h : Gb w v g) (x0 x1 x2 x3 x4 x5 x6 x7 x8 : Value) : G9 (set9 v g x0 x1 x2 x3 x4 x5 x6 x7 x8) g x0 x1 x2 x3 x4 x5 x6 x7 x8 ∧ Below w.heap.size w (set9 v g x0 x1 x2 x3 x4 x5 x6 x7 x8) := by
  obtain ⟨v0, v1, v2, v3, v4, v5, v6, v7, v8, hc⟩ := h.c
  exact ⟨hc.set x0 x1 x2 x3 x4 x5 x6 x7 x8, set9_below h.bel h.low x0 x1 x2 x3 x4 x5 x6 x7 x8⟩

end Cls
end Go.Proofs.YtbnnobeahliffaaDoor
