/- Rows of uint64 in memory: what their cells hold, and worlds of which only some cells were turned. Nothing of the program. -/
import Derived.WalkKit
import Derived.WalkSpells
import Derived.WalkLawsBesides
namespace Go.Proofs.YtbnnobeahliffaaGreatDoor
open Go.RowKit

/-- n cells of block b from offset o on hold G's numbers. -/
def Fam (w : World) (b o n : Nat) (G : Nat → Int) : Prop := ∀ t, t < n → w.cell? ⟨b, o + t, none⟩ = some (.int .u64 (G t))
/-- n cells of block b from offset o on may be written. -/
def Wrt (w : World) (b o n : Nat) : Prop := ∀ t, t < n → w.frozen? ⟨b, o + t, none⟩ = false
def upd (H : Nat → Int) (j : Nat) (x : Int) : Nat → Int := fun t => if t = j then x else H t
theorem upd_at (H : Nat → Int) (j : Nat) (x : Int) : upd H j x j = x := if_pos rfl
theorem upd_off {H : Nat → Int} {j t : Nat} {x : Int} (h : t ≠ j) : upd H j x t = H t := if_neg h

/-- Cells outside S, and all marks, are as they were; no block has come or gone. -/
structure Wrote (S : Nat → Nat → Prop) (w w' : World) : Prop where
  os : w'.os = w.os
  tape : w'.tape = w.tape
  output : w'.output = w.output
  size : w'.heap.size = w.heap.size
  block : ∀ b, (∀ o, ¬ S b o) → w'.heap[b]? = w.heap[b]?
  cell : ∀ b o, ¬ S b o → w'.cell? ⟨b, o, none⟩ = w.cell? ⟨b, o, none⟩
  frozen : ∀ b o, w'.frozen? ⟨b, o, none⟩ = w.frozen? ⟨b, o, none⟩
theorem Wrote.refl (S : Nat → Nat → Prop) (w : World) : Wrote S w w := ⟨rfl, rfl, rfl, rfl, fun _ _ => rfl, fun _ _ _ => rfl, fun _ _ => rfl⟩
theorem Wrote.trans {S : Nat → Nat → Prop} {a b c : World} (h : Wrote S a b) (k : Wrote S b c) : Wrote S a c :=
  ⟨k.os.trans h.os, k.tape.trans h.tape, k.output.trans h.output, k.size.trans h.size, fun i hi => (k.block i hi).trans (h.block i hi), fun i o hi => (k.cell i o hi).trans (h.cell i o hi), fun i o => (k.frozen i o).trans (h.frozen i o)⟩
theorem Wrote.mono {S T : Nat → Nat → Prop} {a b : World} (h : Wrote S a b) (hs : ∀ i o, S i o → T i o) : Wrote T a b :=
  ⟨h.os, h.tape, h.output, h.size, fun i hi => h.block i (fun o ho => hi o (hs i o ho)), fun i o hi => h.cell i o (fun ho => hi (hs i o ho)), h.frozen⟩
theorem Wrote.drewN {S : Nat → Nat → Prop} {a b : World} (h : Wrote S a b) (n : Nat) : Wrote S a (b.drewN n) := ⟨h.os, h.tape, h.output, h.size, h.block, h.cell, h.frozen⟩
theorem Wrote.drew {S : Nat → Nat → Prop} {a b : World} (h : Wrote S a b) : Wrote S a b.drew := ⟨h.os, h.tape, h.output, h.size, h.block, h.cell, h.frozen⟩
theorem frozen_setCell (w : World) (p : Addr) (v : Value) (b o : Nat) : (w.setCell p v).frozen? ⟨b, o, none⟩ = w.frozen? ⟨b, o, none⟩ := by
  unfold World.frozen? World.setCell
  simp only [Array.getElem?_modify]
  by_cases h : p.block = b
  · simp only [h, if_true]
    cases w.heap[b]? with
    | none => rfl
    | some x => cases x <;> rfl
  · simp [h]
theorem cell_setCell_ne (w : World) (b' o' : Nat) (v : Value) (b o : Nat) (h : b ≠ b' ∨ o ≠ o') : (w.setCell ⟨b', o', none⟩ v).cell? ⟨b, o, none⟩ = w.cell? ⟨b, o, none⟩ := by
  refine World.cell?_setCell_other _ _ _ _ ?_
  intro e
  injection e with e1 e2 e3
  rcases h with h | h
  · exact h e1.symm
  · exact h e2.symm
theorem Wrote.setCell {S : Nat → Nat → Prop} {a w : World} (h : Wrote S a w) {b o : Nat} (hp : S b o) (v : Value) : Wrote S a (w.setCell ⟨b, o, none⟩ v) :=
  h.trans ⟨rfl, rfl, rfl, by simp [World.setCell], fun k hk => Below.heap_setCell _ _ _ _ (fun e => hk o (by rw [e]; exact hp)),
    fun i j hj => cell_setCell_ne _ _ _ _ _ _ (by
      by_cases e : i = b
      · right; intro e2; exact hj (by rw [e, e2]; exact hp)
      · left; exact e), fun i j => frozen_setCell _ _ _ _ _⟩
theorem Wrote.below {S : Nat → Nat → Prop} {a w : World} (h : Wrote S a w) {B : Nat} (hB : ∀ b o, S b o → B ≤ b) : Below B a w :=
  ⟨h.os, h.tape, h.output, by rw [h.size]; exact Nat.le_refl _, fun k hk => h.block k (fun o ho => by have := hB k o ho; omega)⟩
theorem Wrote.fam {S : Nat → Nat → Prop} {a w : World} (h : Wrote S a w) {b o n : Nat} {G : Nat → Int} (hf : Fam a b o n G) (hS : ∀ t, t < n → ¬ S b (o + t)) : Fam w b o n G :=
  fun t ht => (h.cell b (o + t) (hS t ht)).trans (hf t ht)
theorem Wrote.wrt {S : Nat → Nat → Prop} {a w : World} (h : Wrote S a w) {b o n : Nat} (hf : Wrt a b o n) : Wrt w b o n :=
  fun t ht => (h.frozen b (o + t)).trans (hf t ht)

theorem Fam.setCell {w : World} {b o n : Nat} {G : Nat → Int} (h : Fam w b o n G) {j : Nat} (hj : j < n) (x : Int) : Fam (w.setCell ⟨b, o + j, none⟩ (.int .u64 x)) b o n (upd G j x) := by
  intro t ht
  by_cases e : t = j
  · subst e; rw [upd_at, World.cell?_setCell_same _ _ _ (h t ht)]
  · rw [upd_off e, cell_setCell_ne _ _ _ _ _ _ (Or.inr (by omega))]; exact h t ht
theorem Fam.setCell_at {w : World} {b o n : Nat} {G : Nat → Int} (h : Fam w b o n G) {j p : Nat} (hj : j < n) (hp : p = o + j) (x : Int) : Fam (w.setCell ⟨b, p, none⟩ (.int .u64 x)) b o n (upd G j x) := by
  subst hp; exact h.setCell hj x
theorem Fam.setCell_ne {w : World} {b o n b' o' : Nat} {G : Nat → Int} (h : Fam w b o n G) (hb : b ≠ b') (v : Value) : Fam (w.setCell ⟨b', o', none⟩ v) b o n G :=
  fun t ht => by rw [cell_setCell_ne _ _ _ _ _ _ (Or.inl hb)]; exact h t ht
theorem Fam.drewN {w : World} {b o n : Nat} {G : Nat → Int} (h : Fam w b o n G) (m : Nat) : Fam (w.drewN m) b o n G := h
theorem Fam.drew {w : World} {b o n : Nat} {G : Nat → Int} (h : Fam w b o n G) : Fam w.drew b o n G := h
theorem Wrt.drewN {w : World} {b o n : Nat} (h : Wrt w b o n) (m : Nat) : Wrt (w.drewN m) b o n := h
theorem Wrt.setCell {w : World} {b o n : Nat} (h : Wrt w b o n) (p : Addr) (v : Value) : Wrt (w.setCell p v) b o n := fun t ht => by rw [frozen_setCell]; exact h t ht
/-- A part. -/
theorem Fam.part {w : World} {b o n : Nat} {G : Nat → Int} (h : Fam w b o n G) (s m : Nat) (hm : s + m ≤ n) : Fam w b (o + s) m (fun t => G (s + t)) :=
  fun t ht => by rw [Nat.add_assoc]; exact h (s + t) (by omega)
theorem Fam.head {w : World} {b o n : Nat} {G : Nat → Int} (h : Fam w b o n G) (m : Nat) (hm : m ≤ n) : Fam w b o m G := fun t ht => h t (by omega)
theorem Wrt.part {w : World} {b o n : Nat} (h : Wrt w b o n) (s m : Nat) (hm : s + m ≤ n) : Wrt w b (o + s) m :=
  fun t ht => by rw [Nat.add_assoc]; exact h (s + t) (by omega)
theorem Wrt.head {w : World} {b o n : Nat} (h : Wrt w b o n) (m : Nat) (hm : m ≤ n) : Wrt w b o m := fun t ht => h t (by omega)
theorem Fam.congr {w : World} {b o n : Nat} {G H : Nat → Int} (h : Fam w b o n G) (e : ∀ t, t < n → G t = H t) : Fam w b o n H := fun t ht => by rw [← e t ht]; exact h t ht
/-- Two parts, put together. -/
theorem Fam.join {w : World} {b o m n : Nat} {G H : Nat → Int} (h : Fam w b o m G) (k : Fam w b (o + m) n H) : Fam w b o (m + n) (fun t => if t < m then G t else H (t - m)) := by
  intro t ht
  by_cases e : t < m
  · simp only [e, if_true]; exact h t e
  · simp only [e, if_false]
    have := k (t - m) (by omega)
    rwa [show o + m + (t - m) = o + t by omega] at this
theorem Fam.below {B : Nat} {w w' : World} {b o n : Nat} {G : Nat → Int} (h : Fam w b o n G) (hb : Below B w w') (hB : b < B) : Fam w' b o n G := fun t ht => (hb.cell (p := ⟨b, o + t, none⟩) hB).trans (h t ht)
theorem Wrt.below {B : Nat} {w w' : World} {b o n : Nat} (h : Wrt w b o n) (hb : Below B w w') (hB : b < B) : Wrt w' b o n := fun t ht => (hb.frozen (p := ⟨b, o + t, none⟩) hB).trans (h t ht)
theorem Fam.lt {w : World} {b o n : Nat} {G : Nat → Int} (h : Fam w b o n G) (hn : 0 < n) : b < w.heap.size := World.block_lt_of_cell? w _ (h 0 hn)
theorem below_drewN {B : Nat} {a w : World} (h : Below B a w) (n : Nat) : Below B a (w.drewN n) := ⟨h.os, h.tape, h.output, h.size, h.block⟩
end Go.Proofs.YtbnnobeahliffaaGreatDoor
