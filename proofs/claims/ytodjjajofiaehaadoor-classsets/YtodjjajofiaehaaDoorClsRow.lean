/- Rows of whatever values in memory; rows of bools that are appended to. Nothing of the program but its types' numbers. -/
import Derived.Test.YtodjjajofiaehaaDoorClsBox
import Derived.OwnWalk
import Derived.Deep.OwnRows
import Derived.Laws.AppendOwn
namespace Go.Proofs.YtodjjajofiaehaaDoor
open Go.RowKit
namespace Cls

/-- The first n cells of block b hold V. -/
def Fv (w : World) (b n : Nat) (V : Nat → Value) : Prop := ∀ t, t < n → w.cell? ⟨b, t, none⟩ = some (V t)
theorem Fv.below {B : Nat} {w w' : World} {b n : Nat} {V : Nat → Value} (h : Fv w b n V) (hb : Below B w w') (hB : b < B) : Fv w' b n V := fun t ht => (hb.cell (p := ⟨b, t, none⟩) hB).trans (h t ht)
theorem Fv.lt {w : World} {b n : Nat} {V : Nat → Value} (h : Fv w b n V) (hn : 0 < n) : b < w.heap.size := World.block_lt_of_cell? w _ (h 0 hn)
theorem Fv.wrote {S : Nat → Nat → Prop} {a w : World} {b n : Nat} {V : Nat → Value} (hf : Fv a b n V) (h : Wrote S a w) (hS : ∀ t, t < n → ¬ S b t) : Fv w b n V := fun t ht => (h.cell b t (hS t ht)).trans (hf t ht)
def updV (V : Nat → Value) (j : Nat) (x : Value) : Nat → Value := fun t => if t = j then x else V t
theorem Fv.set {w : World} {b n : Nat} {V : Nat → Value} (h : Fv w b n V) {j : Nat} (hj : j < n) (x : Value) : Fv (w.setCell ⟨b, j, none⟩ x) b n (updV V j x) := by
  intro t ht
  unfold updV
  by_cases e : t = j
  · subst e; rw [if_pos rfl, World.cell?_setCell_same _ _ _ (h t ht)]
  · rw [if_neg e, cell_setCell_ne _ _ _ _ _ _ (Or.inr e)]; exact h t ht
theorem Fv.congr {w : World} {b n : Nat} {V U : Nat → Value} (h : Fv w b n V) (e : ∀ t, t < n → V t = U t) : Fv w b n U := fun t ht => by rw [← e t ht]; exact h t ht
theorem fv_made (w : World) (z : Value) (n : Nat) (t : TypeId) : Fv (w.alloc (.cells (madeCells #[z] n) t)) w.heap.size n (fun _ => z) := by
  obtain ⟨c, hb, hn, hc⟩ := World.rowIs_made w z n t
  intro i hi
  unfold World.cell?
  rw [hb]
  exact hc i hi
theorem wv_made (w : World) (z : Value) (n : Nat) (t : TypeId) : Wrt (w.alloc (.cells (madeCells #[z] n) t)) w.heap.size 0 n := by
  obtain ⟨c, hb, hn, hc⟩ := World.rowIs_made w z n t
  intro i hi
  unfold World.frozen?
  rw [hb]
  simp
/-- A row of bools. -/
def bo (f : Nat → Bool) (t : Nat) : Value := .bool (f t)
def cbs (f : Nat → Bool) (j : Nat) : List Value := (List.range j).map (bo f)
theorem cbs_succ (f : Nat → Bool) (j : Nat) : cbs f (j + 1) = cbs f j ++ [.bool (f j)] := by unfold cbs; rw [List.range_succ, List.map_append]; rfl
def OwnB (w : World) (B : Nat) (v : Value) (j : Nat) (f : Nat → Bool) : Prop := w.ownsRow B 4 1 v j (cbs f j)
theorem grow_below {w wr w1 : World} {B j size : Nat} {e : TypeId} {v : Value} {xs : List Value} {ob : Obj} (hB : B ≤ wr.heap.size) (hb : Below B w wr) (hown : wr.ownsRow B e size v j xs) (hg : (wr.alloc ob).grownBy w1 v.ownBlock) : Below B w w1 := by
  refine (hb.alloc hB ob).grown hg ?_ ?_
  · show B ≤ (wr.heap.push _).size
    simp; omega
  · intro k hk
    obtain ⟨_, ⟨e, _⟩ | ⟨g, cap, cur, hv, hgB, _⟩⟩ := hown
    · subst e; simp [Value.ownBlock] at hk
    · subst hv; simp [Value.ownBlock] at hk; omega
theorem owns_cells {w : World} {B n size : Nat} {e : TypeId} {v : Value} {xs : List Value} (h : w.ownsRow B e size v n xs) (hn : 1 ≤ n) :
    ∃ g cap, v = .slice (some ⟨g, 0, none⟩) n cap ∧ n ≤ cap ∧ B ≤ g ∧ g < w.heap.size ∧ (∀ t, t < n * size → w.cell? ⟨g, t, none⟩ = xs[t]?) ∧ (∀ t, w.frozen? ⟨g, t, none⟩ = false) := by
  obtain ⟨hl, h | ⟨g, cap, cur, hv, hg, hb, hc, hm, hs, ht⟩⟩ := h
  · omega
  refine ⟨g, cap, hv, hc, hg, ?_, ?_, ?_⟩
  · rcases Nat.lt_or_ge g w.heap.size with h0 | h0
    · exact h0
    · rw [Array.getElem?_eq_none h0] at hb; cases hb
  · intro t htn
    unfold World.cell?
    rw [hb]
    show cur[t]? = _
    have := congrArg (fun l : List Value => l[t]?) ht
    simp only [List.getElem?_take, htn, if_true, Array.getElem?_toList] at this
    exact this
  · intro t
    unfold World.frozen?
    rw [hb]
    simp
theorem ownB_fam {w : World} {B n : Nat} {v : Value} {f : Nat → Bool} (h : OwnB w B v n f) (hn : 1 ≤ n) :
    ∃ g cap, v = .slice (some ⟨g, 0, none⟩) n cap ∧ B ≤ g ∧ g < w.heap.size ∧ Fv w g n (bo f) ∧ Wrt w g 0 n := by
  obtain ⟨g, cap, hv, _, hg, hlt, hc, hf⟩ := owns_cells h hn
  refine ⟨g, cap, hv, hg, hlt, fun t ht => ?_, fun t _ => hf _⟩
  rw [hc t (by omega)]
  simp [cbs, ht]
theorem owns_below {w w' : World} {B n size C : Nat} {e : TypeId} {v : Value} {xs : List Value} (h : w.ownsRow B e size v n xs) (hb : Below C w w') (hC : w.heap.size ≤ C) : w'.ownsRow B e size v n xs := by
  obtain ⟨hl, h | ⟨g, cap, cur, hv, hg, hbk, hc, hm, hs, ht⟩⟩ := h
  · exact ⟨hl, Or.inl h⟩
  · have hlt : g < w.heap.size := by
      rcases Nat.lt_or_ge g w.heap.size with h0 | h0
      · exact h0
      · rw [Array.getElem?_eq_none h0] at hbk; cases hbk
    exact ⟨hl, Or.inr ⟨g, cap, cur, hv, hg, by rw [hb.block g (by omega)]; exact hbk, hc, hm, hs, ht⟩⟩
end Cls
end Go.Proofs.YtodjjajofiaehaaDoor
