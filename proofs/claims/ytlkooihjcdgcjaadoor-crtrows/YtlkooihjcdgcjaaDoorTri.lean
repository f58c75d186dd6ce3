/- Three rows of the call's own, held in an array of three slices, that are appended to in turn. Nothing of the program but its types' numbers. -/
import Derived.Test.YtlkooihjcdgcjaaDoorCrtRowRef
import Derived.Deep.AppendLies
namespace Go.Proofs.YtlkooihjcdgcjaaDoor
open Go.RowKit Res

structure Tri (v4 wr : World) (gl : Nat) (V : Nat → Value) (len : Nat → Nat) (D : Nat → Nat → Int) : Prop where
  cell : ∀ j, j < 3 → wr.cell? ⟨gl, j, none⟩ = some (V j)
  wrt : ∀ j, j < 3 → wr.frozen? ⟨gl, j, none⟩ = false
  own : ∀ j, j < 3 → Own wr (gl + 1) (V j) (len j) (D j)
  ap : ∀ i j, i < 3 → j < 3 → i ≠ j → ∀ g, (V i).ownBlock = some g → (V j).ownBlock ≠ some g
  bel : Below gl v4 wr
  lt : gl < wr.heap.size
theorem Tri.below {v4 wr w' : World} {gl : Nat} {V : Nat → Value} {len : Nat → Nat} {D : Nat → Nat → Int} (h : Tri v4 wr gl V len D) (hb : Below wr.heap.size wr w') : Tri v4 w' gl V len D :=
  ⟨fun j hj => (hb.cell (p := ⟨gl, j, none⟩) h.lt).trans (h.cell j hj), fun j hj => (hb.frozen (p := ⟨gl, j, none⟩) h.lt).trans (h.wrt j hj), fun j hj => (h.own j hj).below hb, h.ap, h.bel.trans (hb.mono (Nat.le_of_lt h.lt)), Nat.lt_of_lt_of_le h.lt hb.size⟩
theorem Tri.congr {v4 wr : World} {gl : Nat} {V : Nat → Value} {len len' : Nat → Nat} {D : Nat → Nat → Int} (h : Tri v4 wr gl V len D) (e : ∀ j, j < 3 → len j = len' j) : Tri v4 wr gl V len' D :=
  ⟨h.cell, h.wrt, fun j hj => by rw [← e j hj]; exact h.own j hj, h.ap, h.bel, h.lt⟩
theorem Own.setCell {w : World} {B j gl o : Nat} {v x : Value} {D : Nat → Int} (h : Own w B v j D) (hB : gl < B) : Own (w.setCell ⟨gl, o, none⟩ x) B v j D := by
  obtain ⟨hl, h | ⟨g, cap, cur, hv, hg, hbl, rest⟩⟩ := h
  · exact ⟨hl, Or.inl h⟩
  · refine ⟨hl, Or.inr ⟨g, cap, cur, hv, hg, ?_, rest⟩⟩
    rw [Below.heap_setCell _ _ _ _ (show g ≠ gl by omega)]
    exact hbl
/-- Row k is appended to, and laid back into the array. -/
theorem Tri.step {v4 wr w1 : World} {gl k g : Nat} {V : Nat → Value} {len : Nat → Nat} {D : Nat → Nat → Int} {ob : Obj} {v' : Value} {x : Int} (h : Tri v4 wr gl V len D) (hk : k < 3) (hx : x = D k (len k))
    (h1 : w1.ownsRow (gl + 1) 22 1 v' (len k + 1) (cellsOf (D k) (len k) ++ [.int .u64 x])) (hg : (wr.alloc ob).grownBy w1 (V k).ownBlock) (hat : (V k).ownBlock = some g ∨ g = wr.heap.size + 1) (hv : v'.ownBlock = some g) :
    Tri v4 (w1.setCell ⟨gl, k, none⟩ v') gl (fun j => if j = k then v' else V j) (fun j => if j = k then len k + 1 else len j) D := by
  have hlt := h.lt
  have hsz := hg.size
  rw [size_alloc] at hsz
  have hne : some gl ≠ (V k).ownBlock := fun e => by
    have := own_lt (h.own k hk) e.symm
    omega
  have hall : gl < (wr.alloc ob).heap.size := by rw [size_alloc]; omega
  have hcell : ∀ j, j < 3 → w1.cell? ⟨gl, j, none⟩ = some (V j) := fun j hj => by
    rw [hg.cell_far ⟨gl, j, none⟩ hall hne, World.cell?_alloc_lt _ _ _ hlt]; exact h.cell j hj
  have hfro : ∀ j, j < 3 → w1.frozen? ⟨gl, j, none⟩ = false := fun j hj => by
    rw [hg.frozen_far ⟨gl, j, none⟩ hall hne, World.frozen?_alloc_past _ _ _ hlt]; exact h.wrt j hj
  have hs := own_step (B := gl + 1) (w := wr) hx (by omega) (Below.refl _ _) (h.own k hk) h1 hg
  have hbw : Below gl wr w1 := hs.2.mono (by omega)
  refine ⟨?_, ?_, ?_, ?_, ?_, ?_⟩
  · intro j hj
    by_cases e : j = k
    · subst e; rw [World.cell?_setCell_same _ _ _ (hcell j hj)]; simp
    · rw [cell_setCell_ne _ _ _ _ _ _ (Or.inr e), hcell j hj]; simp [e]
  · intro j hj
    rw [frozen_setCell]; exact hfro j hj
  · intro j hj
    by_cases e : j = k
    · subst e; simp only [if_true]; exact hs.1.setCell (by omega)
    · simp only [e, if_false]
      refine Own.setCell ?_ (by omega)
      refine World.ownsRow.kept ((h.own j hj).alloc ob) hg ?_
      cases hvj : (V j).ownBlock with
      | none => exact Or.inl rfl
      | some q => exact Or.inr fun e2 => h.ap j k hj hk e q hvj e2.symm
  · intro i j hi hj hij q hq1 hq2
    by_cases ei : i = k
    · subst ei
      have ej : j ≠ i := fun e => hij e.symm
      simp only [if_true] at hq1
      simp only [ej, if_false] at hq2
      rw [hv] at hq1
      injection hq1 with hq1
      subst hq1
      rcases hat with e | e
      · exact h.ap i j hi hj hij g e hq2
      · have := own_lt (h.own j hj) hq2; omega
    · simp only [ei, if_false] at hq1
      by_cases ej : j = k
      · subst ej
        simp only [if_true] at hq2
        rw [hv] at hq2
        injection hq2 with hq2
        subst hq2
        rcases hat with e | e
        · exact h.ap i j hi hj hij g hq1 e
        · have := own_lt (h.own i hi) hq1; omega
      · simp only [ej, if_false] at hq2
        exact h.ap i j hi hj hij q hq1 hq2
  · exact h.bel.trans (hbw.trans (((Wrote.refl (fun b _ => b = gl) w1).setCell rfl v').below (fun b o e => by omega)))
  · show gl < (w1.setCell _ _).heap.size
    rw [((Wrote.refl (fun b _ => b = gl) w1).setCell rfl v').size]; omega
/-- The array as it is laid. -/
theorem Tri.start (w : World) (ty : TypeId) (D : Nat → Nat → Int) (v4 : World) (e : v4 = w.alloc (.cells #[.slice none 0 0, .slice none 0 0, .slice none 0 0] ty)) : Tri v4 v4 w.heap.size (fun _ => .slice none 0 0) (fun _ => 0) D := by
  have hb : v4.heap[w.heap.size]? = some (.cells #[.slice none 0 0, .slice none 0 0, .slice none 0 0] ty) := by rw [e]; show (w.heap.push _)[w.heap.size]? = _; simp
  refine ⟨?_, ?_, fun j _ => own_nil _ _ _, fun i j _ _ _ g h => by simp [Value.ownBlock] at h, Below.refl _ _, by rw [e, size_alloc]; omega⟩
  · intro j hj
    unfold World.cell?
    rw [hb]
    match j, hj with
    | 0, _ => rfl
    | 1, _ => rfl
    | 2, _ => rfl
  · intro j _
    unfold World.frozen?
    rw [hb]
    simp
theorem grown_undrew {w w' : World} {r : Option Nat} (h : w.drew.grownBy w' r) : w.grownBy w' r := ⟨h.os, h.tape, h.output, h.size, h.block⟩
end Go.Proofs.YtlkooihjcdgcjaaDoor
