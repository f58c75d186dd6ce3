/- What NaiveGreater needs: three new boxes; free elements; one row of places in another one. -/
import Derived.Test.YtlogdjhnhnfbkaaDoorNvPar
namespace Go.Proofs.YtlogdjhnhnfbkaaDoor
open Go.RowKit
namespace Cls

/-- One of three comes next. -/
theorem stepH3 {P : Program} {os : List Oper} {Q : Exit → Act → World → Prop} {md : Region.Mode} {S : World → Prop} {i j l : Nat} {o o' o'' : Oper} {fuel : Nat} {listed : Array Bool} {a : Act} {w : World} (ho : os[i]? = some o) (ho' : os[j]? = some o') (ho'' : os[l]? = some o'') (hr : Region.ready md os.toArray listed = [i, j, l]) (hw : Region.wanted o (yielded os.toArray a.tmps) = true) (hw' : Region.wanted o' (yielded os.toArray a.tmps) = true) (hw'' : Region.wanted o'' (yielded os.toArray a.tmps) = true)
    (h : ∀ K : Act → World → Prop, Shut (∀ a' w', S w' → wpAnyH P md os.toArray Q S fuel (listed.setIfInBounds i true) a' w' → K a' w') → o.wp P a w K Q)
    (h' : ∀ K : Act → World → Prop, Shut (∀ a' w', S w' → wpAnyH P md os.toArray Q S fuel (listed.setIfInBounds j true) a' w' → K a' w') → o'.wp P a w K Q)
    (h'' : ∀ K : Act → World → Prop, Shut (∀ a' w', S w' → wpAnyH P md os.toArray Q S fuel (listed.setIfInBounds l true) a' w' → K a' w') → o''.wp P a w K Q) : wpAnyH P md os.toArray Q S (fuel + 1) listed a w :=
  wpAnyH_ready hr (by simp) (AllReadyH.cons (by simpa using ho) (fun K hK => by rw [if_pos hw]; exact h K (fun a' w' hS hW => hK a' w' hS (fun _ => hW)))
    (AllReadyH.cons (by simpa using ho') (fun K hK => by rw [if_pos hw']; exact h' K (fun a' w' hS hW => hK a' w' hS (fun _ => hW)))
      (AllReadyH.cons (by simpa using ho'') (fun K hK => by rw [if_pos hw'']; exact h'' K (fun a' w' hS hW => hK a' w' hS (fun _ => hW))) AllReadyH.nil)))

/-- A box of a leaf that may be written. -/
structure Wb (w : World) (g : Nat) (x y : Value) : Prop where
  c0 : w.cell? ⟨g, 0, none⟩ = some x
  c1 : w.cell? ⟨g, 1, none⟩ = some y
  f0 : w.frozen? ⟨g, 0, none⟩ = false
  f1 : w.frozen? ⟨g, 1, none⟩ = false

theorem Wb.new (w : World) (x y : Value) : ∃ v, LBox w v x y ∧ Wb v w.heap.size x y := by
  obtain ⟨v, h⟩ := lbox w x y
  exact ⟨v, h, h.c0, h.c1, by rw [h.eq]; exact lbox_fz _ _ _ _, by rw [h.eq]; exact lbox_fz _ _ _ _⟩

theorem Wb.lt {w : World} {g : Nat} {x y : Value} (h : Wb w g x y) : g < w.heap.size := World.block_lt_of_cell? w _ h.c0

theorem Wb.grow {w w' : World} {g : Nat} {x y : Value} (h : Wb w g x y) (hb : Below w.heap.size w w') : Wb w' g x y :=
  ⟨(hb.cell (p := ⟨g, 0, none⟩) h.lt).trans h.c0, (hb.cell (p := ⟨g, 1, none⟩) h.lt).trans h.c1, (hb.frozen (p := ⟨g, 0, none⟩) h.lt).trans h.f0, (hb.frozen (p := ⟨g, 1, none⟩) h.lt).trans h.f1⟩

theorem put2_frozen (w : World) (g : Nat) (u v : Value) (p : Addr) : (put2 w g u v).frozen? p = w.frozen? p := by
  unfold put2
  rw [World.frozen?_setCell, World.frozen?_setCell]

theorem Wb.put {w : World} {g : Nat} {x y : Value} (h : Wb w g x y) (u v : Value) : Wb (put2 w g u v) g u v :=
  ⟨(put2_cells h.c0 h.c1).1, (put2_cells h.c0 h.c1).2, by rw [put2_frozen]; exact h.f0, by rw [put2_frozen]; exact h.f1⟩

theorem Wb.other {w : World} {g g' : Nat} {x y : Value} (h : Wb w g x y) (hne : g ≠ g') (u v : Value) : Wb (put2 w g' u v) g x y :=
  ⟨((put2_wrote u v).cell g 0 hne).trans h.c0, ((put2_wrote u v).cell g 1 hne).trans h.c1, by rw [put2_frozen]; exact h.f0, by rw [put2_frozen]; exact h.f1⟩

theorem put2_below {B : Nat} {a w : World} (h : Below B a w) {g : Nat} (hg : B ≤ g) (u v : Value) : Below B a (put2 w g u v) := h.trans ((put2_wrote u v).below (fun b' _ e => by omega))

/-- Three boxes are filled. -/
theorem fill3 {a v : World} {g7 g8 g9 : Nat} {x7 y7 x8 y8 x9 y9 u7 t7 u8 t8 u9 t9 : Value} (hb : Below a.heap.size a v) (h7 : Wb v g7 x7 y7) (h8 : Wb v g8 x8 y8) (h9 : Wb v g9 x9 y9) (l7 : a.heap.size ≤ g7) (l8 : a.heap.size ≤ g8) (l9 : a.heap.size ≤ g9) (n78 : g7 ≠ g8) (n79 : g7 ≠ g9) (n89 : g8 ≠ g9) :
    ∃ v1 v2 v3, v1 = (v.setCell ⟨g7, 0, none⟩ u7).setCell ⟨g7, 1, none⟩ t7 ∧ Wb v1 g8 x8 y8 ∧ Below a.heap.size a v1 ∧ v2 = (v1.setCell ⟨g8, 0, none⟩ u8).setCell ⟨g8, 1, none⟩ t8 ∧ Wb v2 g9 x9 y9 ∧ Below a.heap.size a v2 ∧ v3 = (v2.setCell ⟨g9, 0, none⟩ u9).setCell ⟨g9, 1, none⟩ t9 ∧ Below a.heap.size a v3 ∧ Wb v3 g7 u7 t7 ∧ Wb v3 g8 u8 t8 ∧ Wb v3 g9 u9 t9 :=
  ⟨put2 v g7 u7 t7, put2 (put2 v g7 u7 t7) g8 u8 t8, put2 (put2 (put2 v g7 u7 t7) g8 u8 t8) g9 u9 t9, rfl, h8.other (fun e => n78 e.symm) _ _, put2_below hb l7 _ _, rfl, (h9.other (fun e => n79 e.symm) _ _).other (fun e => n89 e.symm) _ _, put2_below (put2_below hb l7 _ _) l8 _ _, rfl, put2_below (put2_below (put2_below hb l7 _ _) l8 _ _) l9 _ _, ((h7.put _ _).other n78 _ _).other n79 _ _, (((h8.other (fun e => n78 e.symm) _ _).put _ _).other n89 _ _), (((h9.other (fun e => n79 e.symm) _ _).other (fun e => n89 e.symm) _ _).put _ _)⟩

theorem Wb.set1 {w : World} {g : Nat} {x y : Value} (h : Wb w g x y) (u : Value) : Wb (w.setCell ⟨g, 1, none⟩ u) g x u :=
  ⟨(World.cell?_setCell_other _ _ _ _ (by simp)).trans h.c0, World.cell?_setCell_same' _ _ _ (by rw [h.c1]; rfl), by rw [World.frozen?_setCell]; exact h.f0, by rw [World.frozen?_setCell]; exact h.f1⟩

theorem Wb.set0 {w : World} {g : Nat} {x y : Value} (h : Wb w g x y) (u : Value) : Wb (w.setCell ⟨g, 0, none⟩ u) g u y :=
  ⟨World.cell?_setCell_same' _ _ _ (by rw [h.c0]; rfl), (World.cell?_setCell_other _ _ _ _ (by simp)).trans h.c1, by rw [World.frozen?_setCell]; exact h.f0, by rw [World.frozen?_setCell]; exact h.f1⟩

theorem Wb.kept {w w' : World} {g : Nat} {x y : Value} (h : Wb w g x y) (e : w'.heap[g]? = w.heap[g]?) : Wb w' g x y :=
  ⟨(World.cell?_of_block (w := w) (a := ⟨g, 0, none⟩) e).trans h.c0, (World.cell?_of_block (w := w) (a := ⟨g, 1, none⟩) e).trans h.c1, (World.frozen?_of_block (w := w) (a := ⟨g, 0, none⟩) e).trans h.f0, (World.frozen?_of_block (w := w) (a := ⟨g, 1, none⟩) e).trans h.f1⟩

def full : Nat → Bool := fun _ => true

/-- The leaf of free elements, on the way. -/
structure Fg (w3 : World) (B g7 g8 g9 : Nat) (x7 y7 x8 y8 : Value) (wr : World) (v : Value) (j : Nat) : Prop where
  bel : Below w3.heap.size w3 wr
  r7 : Wb wr g7 x7 y7
  r8 : Wb wr g8 x8 y8
  r9 : Wb wr g9 v (.int .i64 0)
  own : OwnC wr B v (List.replicate j full)
  size : B ≤ wr.heap.size

theorem Fg.step {w3 wr v4 we : World} {B g7 g8 g9 j : Nat} {x7 y7 x8 y8 v v' : Value} {ob : Obj} (h : Fg w3 B g7 g8 g9 x7 y7 x8 y8 wr v j) (hb : Below wr.heap.size wr v4) (l9 : w3.heap.size ≤ g9) (n79 : g7 ≠ g9) (n89 : g8 ≠ g9) (b7 : g7 < B) (b8 : g8 < B) (b9 : g9 < B) (_hB : w3.heap.size ≤ B)
    (hg : (v4.alloc ob).grownBy we v.ownBlock) (ho : we.ownsRow B 51 4 v' (j + 1) (cls (List.replicate j full) ++ cls [full])) :
    we.cell? ⟨g9, 0, none⟩ = some v ∧ we.frozen? ⟨g9, 0, none⟩ = false ∧ Fg w3 B g7 g8 g9 x7 y7 x8 y8 (we.setCell ⟨g9, 0, none⟩ v') v' (j + 1) := by
  have hblk : ∀ k, k < B → we.heap[k]? = wr.heap[k]? := fun k hk => by
    have hs := h.size
    have h1 := hb.size
    refine (hg.block k (by rw [World.size_alloc]; omega) (fun e => ?_)).trans ((Below.heap_alloc _ _ _ (by omega)).trans (hb.block k (by omega)))
    rcases h.own.2 with ⟨e1, _⟩ | ⟨g, cap, cur, e1, hge, _⟩
    · rw [e1] at e; cases e
    · rw [e1] at e
      simp [Value.ownBlock] at e
      omega
  have r9 := h.r9.kept (hblk g9 b9)
  have hwe : Below w3.heap.size w3 we := ⟨?_, ?_, ?_, ?_, fun k hk => (hblk k (by omega)).trans (h.bel.block k hk)⟩
  refine ⟨r9.c0, r9.f0, hwe.setCell (p := ⟨g9, 0, none⟩) l9 _, (h.r7.kept (hblk g7 b7)).kept (Below.heap_setCell _ _ _ _ n79), (h.r8.kept (hblk g8 b8)).kept (Below.heap_setCell _ _ _ _ n89), r9.set0 _, ?_, ?_⟩
  · unfold OwnC
    rw [List.length_replicate, List.replicate_succ', cls_append]
    refine ⟨ho.1, ?_⟩
    rcases ho.2 with h | ⟨g, cap, cur, rfl, hge, hh, r⟩
    · exact .inl h
    · exact .inr ⟨g, cap, cur, rfl, hge, (Below.heap_setCell _ _ _ _ (by show g ≠ g9; omega)).trans hh, r⟩
  · have h1 := hg.size
    have h2 := hb.size
    have h3 := h.size
    rw [World.size_alloc] at h1
    have h4 := (KeepsWalks.setCell we ⟨g9, 0, none⟩ v').size
    omega
  · exact hg.os.trans (hb.os.trans h.bel.os)
  · exact hg.tape.trans (hb.tape.trans h.bel.tape)
  · exact hg.output.trans (hb.output.trans h.bel.output)
  · have h1 := hg.size
    have h2 := hb.size
    have h3 := h.bel.size
    rw [World.size_alloc] at h1
    omega

theorem rgt_other {P : Nat → Nat → Bool} {n : Nat} {K k : Int} (h : rgt P n K = true) (h0 : 0 ≤ k) (h1 : k ≤ 64) : rgt P n k = true := by
  obtain ⟨a, b, c, d⟩ := rgt_len h
  rw [rgt_yes ⟨a, b, c, d⟩] at h
  rw [rgt_yes ⟨a, b, h0, h1⟩]
  exact h

theorem stn_other {P : Nat → Nat → Bool} {n m : Nat} {K k : Int} (h : rgt P n K = true) (h' : rgt P n k = true) : stn P n k m = stn P n K m := by
  unfold stn
  rw [h, h']

theorem fnd_all {P : Nat → Nat → Bool} {n : Nat} {K : Int} {s : ByteArray} (h : ∀ i, (mis P s i n : Int) ≤ K) : (fnd P n K s).length = stn P n K s.size := by
  rw [fnd_hts]
  exact hts_all (fun i _ => h i)

/-- A leaf of free elements. -/
theorem free_leaf {G : Nat → Nat → Bool} {n : Nat} (h1 : 1 ≤ n) (h2 : n ≤ 64) (hG : ∀ t, t < n → G t = full) : rgt G n 0 = true ∧ ∀ s i, mis G s i n = 0 := by
  constructor
  · rw [rgt_yes ⟨h1, h2, by decide, by decide⟩]
    have e : emp G n = false := by
      unfold emp
      rw [List.any_eq_false]
      intro t ht hh
      rw [hG t (by simpa using ht)] at hh
      have := (sm_iff _ _).1 hh 0 (by decide)
      cases this
    rw [e]
    rfl
  · exact fun s i => mis_full G s i n (fun t ht => by rw [hG t ht]; exact (fr_iff full).2 (fun _ _ => rfl))

theorem stn_free {P G : Nat → Nat → Bool} {n m : Nat} {K k : Int} (h : rgt P n K = true) (h' : rgt G n k = true) : stn G n k m = stn P n K m := by
  unfold stn
  rw [h, h']

/-- What is found with a lesser number is found with a greater one. -/
theorem fnd_in {P : Nat → Nat → Bool} {n : Nat} {K k : Int} {s : ByteArray} (h : rgt P n K = true) (h' : rgt P n k = true) (hk : K ≤ k) (j : Nat) (hj : j < (fnd P n K s).length) :
    ∃ x q : Nat, (fnd P n K s)[j]? = some x ∧ q < (fnd P n k s).length ∧ (fnd P n k s)[q]? = some x ∧ (∀ t, t < q → ∃ y, (fnd P n k s)[t]? = some y ∧ y < x) ∧ (∀ j' x', j < j' → (fnd P n K s)[j']? = some x' → x < x') := by
  have sub : ∀ x, x ∈ fnd P n K s → x ∈ fnd P n k s := fun x h0 => by
    rw [fnd_hts, hts_mem] at h0
    rw [fnd_hts, hts_mem, stn_other h h']
    exact ⟨h0.1, Int.le_trans h0.2 hk⟩
  have hm : (fnd P n K s)[j] ∈ fnd P n k s := sub _ (List.getElem_mem hj)
  obtain ⟨q, hq, e⟩ := List.getElem_of_mem hm
  have so0 : (fnd P n K s).Pairwise (· < ·) := by rw [fnd_hts]; exact hts_sorted _ _ _
  have so1 : (fnd P n k s).Pairwise (· < ·) := by rw [fnd_hts]; exact hts_sorted _ _ _
  refine ⟨(fnd P n K s)[j], q, List.getElem?_eq_getElem hj, hq, by rw [List.getElem?_eq_getElem hq, e], fun t ht => ⟨(fnd P n k s)[t]'(by omega), List.getElem?_eq_getElem _, ?_⟩, fun j' x' hjj hx' => ?_⟩
  · rw [← e]; exact rise_lt so1 ht hq
  · obtain ⟨hl, e'⟩ := List.getElem?_eq_some_iff.1 hx'
    rw [← e']
    exact rise_lt so0 hjj hl

end Cls
end Go.Proofs.YtlogdjhnhnfbkaaDoor
