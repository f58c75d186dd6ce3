/- The table of primes in a world that has grown; rows that are appended to; new rows and boxes. Nothing of the program but its table of primes and its types' numbers. -/
import Derived.Test.YtlogdjhnhnfbkaaDoorResWalks
import Derived.Test.YtlogdjhnhnfbkaaDoorNttFill
import Derived.OwnWalk
import Derived.Deep.OwnRows
namespace Go.Proofs.YtlogdjhnhnfbkaaDoor
open Go.RowKit Res

theorem Tab.wrote {S : Nat → Nat → Prop} {w w' : World} (h : Tab w) (hw : Wrote S w w') (hS : ∀ o, ¬ S 1 o) : Tab w' :=
  ⟨(hw.cell _ _ (hS _)).trans h.1, (hw.cell _ _ (hS _)).trans h.2.1, (hw.cell _ _ (hS _)).trans h.2.2⟩
theorem Tab.setCell {w : World} (h : Tab w) {b o : Nat} (hb : b ≠ 1) (v : Value) : Tab (w.setCell ⟨b, o, none⟩ v) :=
  ⟨(cell_setCell_ne _ _ _ _ _ _ (Or.inl (Ne.symm hb))).trans h.1, (cell_setCell_ne _ _ _ _ _ _ (Or.inl (Ne.symm hb))).trans h.2.1, (cell_setCell_ne _ _ _ _ _ _ (Or.inl (Ne.symm hb))).trans h.2.2⟩
theorem Tab.drewN' {w : World} (h : Tab w) (n : Nat) : Tab (w.drewN n) := h
theorem infoU : (Tryd.prog.info? 49).map (fun i => (i.zero, i.size, i.bytes)) = some (some (.int .u64 0), 1, 8) := by kernel_rfl
theorem tab_lt {w : World} (h : Tab w) : 1 < w.heap.size := World.block_lt_of_cell? w _ h.1
theorem Tab.below {B : Nat} {w w' : World} (h : Tab w) (hb : Below B w w') (hB : 1 < B) : Tab w' :=
  ⟨(hb.cell (p := ⟨1, 0, none⟩) hB).trans h.1, (hb.cell (p := ⟨1, 1, none⟩) hB).trans h.2.1, (hb.cell (p := ⟨1, 2, none⟩) hB).trans h.2.2⟩
theorem Tab.alloc {w : World} (h : Tab w) (o : Obj) : Tab (w.alloc o) := h.below ((Below.refl _ _).alloc (Nat.le_refl _) o) (tab_lt h)

theorem below_undrew {B : Nat} {a w : World} (h : Below B a.drew w) : Below B a w := ⟨h.os, h.tape, h.output, h.size, h.block⟩

/-- The cells of a row that was appended to, number by number. -/
def cellsOf (D : Nat → Int) (j : Nat) : List Value := (List.range j).map fun t => Value.int .u64 (D t)
def Own (w : World) (B : Nat) (v : Value) (j : Nat) (D : Nat → Int) : Prop := w.ownsRow B 49 1 v j (cellsOf D j)
theorem cellsOf_succ (D : Nat → Int) (j : Nat) : cellsOf D (j + 1) = cellsOf D j ++ [.int .u64 (D j)] := by
  unfold cellsOf; rw [List.range_succ, List.map_append]; rfl
theorem own_nil (w : World) (B : Nat) (D : Nat → Int) : Own w B (.slice none 0 0) 0 D := World.ownsRow_nil _ _ _ _
theorem own_fam {w : World} {B n : Nat} {v : Value} {D : Nat → Int} (h : Own w B v n D) (hn : 1 ≤ n) :
    ∃ g cap, v = .slice (some ⟨g, 0, none⟩) n cap ∧ B ≤ g ∧ g < w.heap.size ∧ Fam w g 0 n D ∧ Wrt w g 0 n := by
  obtain ⟨hl, h | ⟨g, cap, cur, hv, hg, hb, hc, hm, hs, ht⟩⟩ := h
  · omega
  refine ⟨g, cap, hv, hg, ?_, ?_, ?_⟩
  · rcases Nat.lt_or_ge g w.heap.size with h0 | h0
    · exact h0
    · rw [Array.getElem?_eq_none h0] at hb; cases hb
  · intro t htn
    unfold World.cell?
    rw [hb, Nat.zero_add]
    show cur[t]? = _
    have := congrArg (fun l : List Value => l[t]?) ht
    simp only [Nat.mul_one, List.getElem?_take, htn, if_true, Array.getElem?_toList] at this
    rw [this]
    simp [cellsOf, htn]
  · intro t _
    unfold World.frozen?
    rw [hb]
    simp
/-- Behind an append of one number. -/
theorem own_step {w wr w1 : World} {B j : Nat} {v v' : Value} {D : Nat → Int} {ob : Obj} {x : Int} (hx : x = D j) (hB : B ≤ wr.heap.size) (hb : Below B w wr) (hown : Own wr B v j D) (h1 : w1.ownsRow B 49 1 v' (j + 1) (cellsOf D j ++ [.int .u64 x])) (hg : (wr.alloc ob).grownBy w1 v.ownBlock) :
    Own w1 B v' (j + 1) D ∧ Below B w w1 := by
  refine ⟨by unfold Own; rw [cellsOf_succ, ← hx]; exact h1, ?_⟩
  refine (hb.alloc hB ob).grown hg ?_ ?_
  · show B ≤ (wr.heap.push _).size
    simp; omega
  · intro k hk
    obtain ⟨_, ⟨e, _⟩ | ⟨g, cap, cur, hv, hgB, _⟩⟩ := hown
    · subst e; simp [Value.ownBlock] at hk
    · subst hv; simp [Value.ownBlock] at hk; omega
theorem own_lt {wr : World} {B i g : Nat} {v : Value} {D : Nat → Int} (h : Own wr B v i D) (hg : v.ownBlock = some g) : B ≤ g ∧ g < wr.heap.size := by
  obtain ⟨_, ⟨e, _⟩ | ⟨g', cap, cur, hv, hgB, hb, _⟩⟩ := h
  · subst e; simp [Value.ownBlock] at hg
  · subst hv
    simp [Value.ownBlock] at hg
    subst hg
    refine ⟨hgB, ?_⟩
    rcases Nat.lt_or_ge g' wr.heap.size with h0 | h0
    · exact h0
    · rw [Array.getElem?_eq_none h0] at hb; cases hb
theorem own_slice {wr : World} {B i : Nat} {v : Value} {D : Nat → Int} (h : Own wr B v i D) : ∃ ao c, v = .slice ao i c := by
  obtain ⟨_, ⟨e, e2⟩ | ⟨g', cap, cur, hv, _⟩⟩ := h
  · subst e2; exact ⟨none, 0, e⟩
  · exact ⟨_, _, hv⟩

/-- A list of numbers as a row. -/
def lst (zs : List Int) (t : Nat) : Int := zs.getD t 0
theorem fam_lit (w : World) (zs : List Int) (ty : TypeId) : Fam (w.alloc (.cells (zs.map (Value.int .u64)).toArray ty)) w.heap.size 0 zs.length (lst zs) := by
  intro t ht
  have hb : (w.alloc (.cells (zs.map (Value.int .u64)).toArray ty)).heap[w.heap.size]? = some (.cells (zs.map (Value.int .u64)).toArray ty) := by
    show (w.heap.push _)[w.heap.size]? = _
    simp
  unfold World.cell?
  rw [hb, Nat.zero_add]
  show (zs.map (Value.int .u64)).toArray[t]? = _
  simp [lst, ht]
/-- A new row in the world. -/
theorem lit_facts (w : World) (hT : Tab w) (B : Nat) (hB : B ≤ w.heap.size) (w0 : World) (hb : Below B w0 w) (zs : List Int) (ty : TypeId) :
    ∃ v, v = w.alloc (.cells (zs.map (Value.int .u64)).toArray ty) ∧ Tab v ∧ Fam v w.heap.size 0 zs.length (lst zs) ∧ Below B w0 v ∧ Below w.heap.size w v ∧ w.heap.size < v.heap.size :=
  ⟨_, rfl, hT.alloc _, fam_lit w zs ty, hb.alloc hB _, (Below.refl _ _).alloc (Nat.le_refl _) _, by show _ < (w.heap.push _).size; simp⟩
theorem lst_nonneg {zs : List Int} (h : ∀ z, z ∈ zs → 0 ≤ z) (t : Nat) : 0 ≤ lst zs t := by
  unfold lst
  by_cases ht : t < zs.length
  · rw [List.getD_eq_getElem?_getD, List.getElem?_eq_getElem ht]; exact h _ (List.getElem_mem ht)
  · rw [List.getD_eq_getElem?_getD, List.getElem?_eq_none (by omega)]; simp
theorem size_alloc (w : World) (o : Obj) : (w.alloc o).heap.size = w.heap.size + 1 := by show (w.heap.push _).size = _; simp
theorem cell_box0 (w : World) (x y : Value) (t : TypeId) : (w.alloc (.cells #[x, y] t)).cell? ⟨w.heap.size, 0, none⟩ = some x := by
  have hb : (w.alloc (.cells #[x, y] t)).heap[w.heap.size]? = some (.cells #[x, y] t) := by show (w.heap.push _)[w.heap.size]? = _; simp
  unfold World.cell?; rw [hb]; rfl
theorem cell_box1 (w : World) (x y : Value) (t : TypeId) : (w.alloc (.cells #[x, y] t)).cell? ⟨w.heap.size, 1, none⟩ = some y := by
  have hb : (w.alloc (.cells #[x, y] t)).heap[w.heap.size]? = some (.cells #[x, y] t) := by show (w.heap.push _)[w.heap.size]? = _; simp
  unfold World.cell?; rw [hb]; rfl
end Go.Proofs.YtlogdjhnhnfbkaaDoor
