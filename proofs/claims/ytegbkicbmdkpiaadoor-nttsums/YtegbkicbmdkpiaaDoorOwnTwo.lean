/- Two rows of the call's own that are appended to in turn. Nothing of the program but its table's rows. -/
import Derived.Test.YtegbkicbmdkpiaaDoorNttRef
import Derived.Maps.AppendAt
namespace Go.Proofs.YtegbkicbmdkpiaaDoor
open Go.RowKit

structure Pair (B : Nat) (w1 wr : World) (va vb : Value) (i j : Nat) (A D : Nat → Int) : Prop where
  oa : Own wr B va i A
  ob : Own wr B vb j D
  ap : ∀ g, va.ownBlock = some g → vb.ownBlock ≠ some g
  bel : Below B w1 wr
  le : B ≤ wr.heap.size
theorem own_lt {wr : World} {B i g : Nat} {v : Value} {D : Nat → Int} (h : Own wr B v i D) (hg : v.ownBlock = some g) : B ≤ g ∧ g < wr.heap.size := by
  obtain ⟨_, ⟨e, _⟩ | ⟨g', cap, cur, hv, hgB, hb, _⟩⟩ := h
  · subst e; simp [Value.ownBlock] at hg
  · subst hv
    simp [Value.ownBlock] at hg
    subst hg
    refine ⟨hgB, ?_⟩
    rcases Nat.lt_or_ge g' wr.heap.size with h0 | h0
    · exact h0
    · rw [Array.getElem?_eq_none h0] at hb; cases hb
theorem own_slice {wr : World} {B i : Nat} {v : Value} {D : Nat → Int} (h : Own wr B v i D) : ∃ ao c, v = .slice ao i c := by
  obtain ⟨_, ⟨e, e2⟩ | ⟨g', cap, cur, hv, _⟩⟩ := h
  · subst e2; exact ⟨none, 0, e⟩
  · exact ⟨_, _, hv⟩
theorem size_alloc (w : World) (o : Obj) : (w.alloc o).heap.size = w.heap.size + 1 := by show (w.heap.push _).size = _; simp
theorem cell_box0 (w : World) (x y : Value) (t : TypeId) : (w.alloc (.cells #[x, y] t)).cell? ⟨w.heap.size, 0, none⟩ = some x := by
  have hb : (w.alloc (.cells #[x, y] t)).heap[w.heap.size]? = some (.cells #[x, y] t) := by show (w.heap.push _)[w.heap.size]? = _; simp
  unfold World.cell?; rw [hb]; rfl
theorem cell_box1 (w : World) (x y : Value) (t : TypeId) : (w.alloc (.cells #[x, y] t)).cell? ⟨w.heap.size, 1, none⟩ = some y := by
  have hb : (w.alloc (.cells #[x, y] t)).heap[w.heap.size]? = some (.cells #[x, y] t) := by show (w.heap.push _)[w.heap.size]? = _; simp
  unfold World.cell?; rw [hb]; rfl
/-- The first one is appended to. -/
theorem Pair.a {B : Nat} {w1 wr wa : World} {va vb va' : Value} {i j : Nat} {A D : Nat → Int} {ob : Obj} {x : Int} (h : Pair B w1 wr va vb i j A D) (hx : x = A i) (h1 : wa.ownsRow B 32 1 va' (i + 1) (cellsOf A i ++ [.int .u64 x])) (hg : (wr.alloc ob).grownBy wa va.ownBlock) (hat : va'.ownBlock = va.ownBlock ∨ va'.ownBlock = some (wr.heap.size + 1)) :
    Pair B w1 wa va' vb (i + 1) j A D := by
  have hs := own_step hx h.le h.bel h.oa h1 hg
  refine ⟨hs.1, ?_, ?_, hs.2, ?_⟩
  · refine World.ownsRow.kept (h.ob.alloc ob) hg ?_
    cases hv : vb.ownBlock with
    | none => exact Or.inl rfl
    | some g => exact Or.inr fun e => h.ap g e.symm hv
  · intro g hg1 hg2
    rcases hat with e | e
    · exact h.ap g (e ▸ hg1) hg2
    · have := own_lt h.ob hg2
      rw [e] at hg1
      have : wr.heap.size + 1 = g := Option.some.inj hg1
      omega
  · have := hg.size; have := h.le; rw [size_alloc] at *; omega
/-- The second one is appended to. -/
theorem Pair.b {B : Nat} {w1 wr wa : World} {va vb vb' : Value} {i j : Nat} {A D : Nat → Int} {ob : Obj} {x : Int} (h : Pair B w1 wr va vb i j A D) (hx : x = D j) (h1 : wa.ownsRow B 32 1 vb' (j + 1) (cellsOf D j ++ [.int .u64 x])) (hg : (wr.alloc ob).grownBy wa vb.ownBlock) (hat : vb'.ownBlock = vb.ownBlock ∨ vb'.ownBlock = some (wr.heap.size + 1)) :
    Pair B w1 wa va vb' i (j + 1) A D := by
  have hs := own_step hx h.le h.bel h.ob h1 hg
  refine ⟨?_, hs.1, ?_, hs.2, ?_⟩
  · refine World.ownsRow.kept (h.oa.alloc ob) hg ?_
    cases hv : va.ownBlock with
    | none => exact Or.inl rfl
    | some g => exact Or.inr fun e => h.ap g hv e.symm
  · intro g hg1 hg2
    rcases hat with e | e
    · exact h.ap g hg1 (e ▸ hg2)
    · have := own_lt h.oa hg1
      rw [e] at hg2
      have : wr.heap.size + 1 = g := Option.some.inj hg2
      omega
  · have := hg.size; have := h.le; rw [size_alloc] at *; omega
end Go.Proofs.YtegbkicbmdkpiaaDoor
