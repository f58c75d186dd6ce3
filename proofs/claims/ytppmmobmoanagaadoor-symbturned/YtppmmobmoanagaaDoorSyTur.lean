/- A leaf and a text, both the other way round: what they tell; their rows while they are made. -/
import Derived.Test.YtppmmobmoanagaaDoorSyAl
import Derived.Test.YtppmmobmoanagaaDoorLfA
import Derived.Laws.BytesArg
import Derived.Deep.AppendLies
import Derived.Deep.RegionLaw
namespace Go.Proofs.YtppmmobmoanagaaDoor
open Go.RowKit Res
namespace Cls

/-- The first k elements of the leaf that is turned. -/
def tnl (P : Nat → Nat → Bool) (n k : Nat) : List (Nat → Bool) := (List.range k).map fun t => P (n - 1 - t)

theorem tnl_succ (P : Nat → Nat → Bool) (n k : Nat) : tnl P n (k + 1) = tnl P n k ++ [P (n - 1 - k)] := by
  unfold tnl
  rw [List.range_succ, List.map_append]
  rfl

theorem tnl_len (P : Nat → Nat → Bool) (n k : Nat) : (tnl P n k).length = k := by simp [tnl]

theorem tnl_at (P : Nat → Nat → Bool) (n k t : Nat) (h : t < k) : at' (tnl P n k) t = P (n - 1 - t) := by
  rw [at_get (by rw [tnl_len]; exact h)]
  simp [tnl]

/-- The first k bytes of the text that is turned. -/
def tbl (s : ByteArray) (k : Nat) : List Int := (List.range k).map fun t => ((byt s (s.size - 1 - t) : Nat) : Int)

theorem tbl_succ (s : ByteArray) (k : Nat) : tbl s (k + 1) = tbl s k ++ [((byt s (s.size - 1 - k) : Nat) : Int)] := by
  unfold tbl
  rw [List.range_succ, List.map_append]
  rfl

theorem tbl_len (s : ByteArray) (k : Nat) : (tbl s k).length = k := by simp [tbl]

/-- As cells. -/
def tbv (s : ByteArray) (k : Nat) : List Value := (tbl s k).map (Value.int .u8)

theorem tbv_succ (s : ByteArray) (k : Nat) : tbv s (k + 1) = tbv s k ++ [.int .u8 ((byt s (s.size - 1 - k) : Nat) : Int)] := by
  unfold tbv
  rw [tbl_succ, List.map_append]
  rfl

/-- The text, turned. -/
def trn (s : ByteArray) : ByteArray := strOfNums (tbl s s.size)

theorem trn_size (s : ByteArray) : (trn s).size = s.size := by
  show ((tbl s s.size).map fun n => UInt8.ofNat n.toNat).toArray.size = _
  simp [tbl]

theorem trn_byt (s : ByteArray) (t : Nat) (h : t < s.size) : byt (trn s) t = byt s (s.size - 1 - t) := by
  have hs : t < (trn s).size := by rw [trn_size]; exact h
  rw [byt_at _ t hs]
  have e : (trn s)[t]'hs = UInt8.ofNat (byt s (s.size - 1 - t)) := by
    show ((tbl s s.size).map fun n => UInt8.ofNat n.toNat).toArray[t]'_ = _
    simp [tbl]
  rw [e]
  have := byt_lt s (s.size - 1 - t)
  simp
  omega

/-- Such a row of bytes is that text. -/
theorem trn_text {w : World} {B : Nat} {v : Value} (s : ByteArray) (h : w.ownsRow B 5 1 v s.size (tbv s s.size)) : (convert 49 9 v).run Tryd.prog w = .ok (.string (trn s)) w := by
  have hcl := fun g hg => World.ownsRow.cells h (g := g) hg
  obtain ⟨hl, h | ⟨g, cap, cur, hv, _⟩⟩ := h
  · have e0 : s.size = 0 := h.2
    have hv : v = .slice none 0 0 := h.1
    subst hv
    have hq := run_convert_bytes_nil (P := Tryd.prog) w 49 5 Tryd.underlying49 Tryd.underlying5 0 0 9 Tryd.underlying9
    have e : trn s = ByteArray.empty := by
      unfold trn
      rw [e0]
      rfl
    rw [e]
    exact hq
  · subst hv
    exact run_convert_bytes_arg (P := Tryd.prog) w 49 5 Tryd.underlying49 Tryd.underlying5 g 0 s.size cap (tbl s s.size) (tbl_len _ _) (fun i hi => by
      have hh := hcl g rfl i (.int .u8 ((tbl s s.size).getD i 0))
      rw [add_none] at hh
      refine hh ?_
      unfold tbv
      rw [List.getElem?_map, List.getD_eq_getElem?_getD]
      rw [List.getElem?_eq_getElem (by rw [tbl_len]; exact hi)]
      rfl) 9 Tryd.underlying9

theorem rgt_turn {P Q : Nat → Nat → Bool} {n : Nat} {K : Int} (hQ : ∀ t, t < n → Q t = P (n - 1 - t)) : rgt Q n K = rgt P n K := by
  unfold rgt
  rw [emp_turn hQ]

theorem se_turn {P Q : Nat → Nat → Bool} {n m : Nat} {K z : Int} (hQ : ∀ t, t < n → Q t = P (n - 1 - t)) : se Q n K m z = se P n K m z := by
  unfold se
  rw [rgt_turn hQ]

theorem sq_turn {P Q : Nat → Nat → Bool} {n m : Nat} {K z : Int} (hQ : ∀ t, t < n → Q t = P (n - 1 - t)) : sq Q n K m z = sq P n K m z := by
  unfold sq
  rw [se_turn hQ, kd_same (has_turn hQ)]

/-- The counts, both turned. -/
theorem sc_turn {P Q : Nat → Nat → Bool} {n : Nat} {K z : Int} {s u : ByteArray} (hQ : ∀ t, t < n → Q t = P (n - 1 - t)) (hz : u.size = s.size) (hu : ∀ t, t < s.size → byt u t = byt s (s.size - 1 - t)) :
    (sc Q n K u z).length = (sc P n K s z).length ∧ ∀ i, (h : i < (sc P n K s z).length) → (h2 : (sc P n K s z).length - 1 - i < (sc Q n K u z).length) → (sc P n K s z)[i] = (sc Q n K u z)[(sc P n K s z).length - 1 - i] := by
  by_cases he : se P n K s.size z = 0
  · have he2 : se Q n K u.size z = 0 := by rw [hz, se_turn hQ]; exact he
    have e1 : sc P n K s z = cts P n K s := sc_ok he
    have e2 : sc Q n K u z = cts Q n K u := sc_ok he2
    have l1 : (cts P n K s).length = stn P n K s.size := cts_len _ _ _ _
    have l2 : (cts Q n K u).length = stn P n K s.size := by
      rw [cts_len, hz]
      unfold stn
      rw [rgt_turn hQ]
    have q1 : ∀ i, (h : i < (sc P n K s z).length) → (sc P n K s z)[i] = mis P s i n := by rw [e1]; exact fun i h => cts_at P n K s i h
    have q2 : ∀ i, (h : i < (sc Q n K u z).length) → (sc Q n K u z)[i] = mis Q u i n := by rw [e2]; exact fun i h => cts_at Q n K u i h
    refine ⟨by rw [e1, e2, l1, l2], fun i h h2 => ?_⟩
    rw [q1 i h, q2 _ h2]
    have hl : (sc P n K s z).length = stn P n K s.size := by rw [e1, l1]
    rw [hl] at h ⊢
    obtain ⟨hr, hle⟩ := stn_lt.1 h
    have hst : stn P n K s.size = s.size - n + 1 := stn_yes hr (by omega)
    rw [hst] at h ⊢
    have hm := mis_turn (P := P) (Q := Q) (s := s) (u := u) (n := n) (N := s.size) (i := s.size - n + 1 - 1 - i) hQ hu (by omega)
    rw [hm]
    congr 1
    omega
  · have he2 : ¬ se Q n K u.size z = 0 := by rw [hz, se_turn hQ]; exact he
    rw [sc_no he, sc_no he2]
    exact ⟨rfl, fun i h => absurd h (by simp)⟩

/-- The leaf that is turned, while it is made. -/
structure Tt (w1 w2 wr : World) (v : Value) (K : Int) (P : Nat → Nat → Bool) (n k : Nat) : Prop where
  bel : Below w1.heap.size w1 wr
  lt : w1.heap.size < w2.heap.size
  size : w2.heap.size ≤ wr.heap.size
  c : wr.cell? ⟨w1.heap.size, 0, none⟩ = some v ∧ wr.cell? ⟨w1.heap.size, 1, none⟩ = some (.int .i64 K)
  f : Wrt wr w1.heap.size 0 2
  own : wr.ownsRow w2.heap.size 27 4 v k (cls (tnl P n k))

theorem Tt.grow {w1 w2 wr w' : World} {v : Value} {K : Int} {P : Nat → Nat → Bool} {n k : Nat} (h : Tt w1 w2 wr v K P n k) (b : Below wr.heap.size wr w') : Tt w1 w2 w' v K P n k :=
  have hlt : w1.heap.size < wr.heap.size := Nat.lt_of_lt_of_le h.lt h.size
  ⟨h.bel.trans (b.mono h.bel.size), h.lt, Nat.le_trans h.size b.size, two_below h.c b hlt, h.f.below b hlt, owns_below h.own b (Nat.le_refl _)⟩

theorem Tt.step {w1 w2 w3 w4 : World} {v : Value} {K : Int} {P : Nat → Nat → Bool} {n k g cap : Nat} {ob : Obj} (h : Tt w1 w2 w3 v K P n k)
    (ho : w4.ownsRow w2.heap.size 27 4 (.slice (some ⟨g, 0, none⟩) (k + 1) cap) (k + 1) (cls (tnl P n k) ++ cls [P (n - 1 - k)])) (hg : (w3.alloc ob).grownBy w4 v.ownBlock) :
    w4.cell? ⟨w1.heap.size, 0, none⟩ = some v ∧ w4.frozen? ⟨w1.heap.size, 0, none⟩ = false ∧ Tt w1 w2 (w4.setCell ⟨w1.heap.size, 0, none⟩ (.slice (some ⟨g, 0, none⟩) (k + 1) cap)) (.slice (some ⟨g, 0, none⟩) (k + 1) cap) K P n (k + 1) := by
  have hlt : w1.heap.size < w3.heap.size := Nat.lt_of_lt_of_le h.lt h.size
  have hlt' : w1.heap.size < (w3.alloc ob).heap.size := by show _ < (w3.heap.push _).size; simp; omega
  have hne : some w1.heap.size ≠ v.ownBlock := owns_apart h.own h.lt
  have bl : Below w3.heap.size w3 (w3.alloc ob) := (Below.refl _ _).alloc (Nat.le_refl _) _
  have h0 : w4.cell? ⟨w1.heap.size, 0, none⟩ = some v := (hg.cell_far ⟨w1.heap.size, 0, none⟩ hlt' hne).trans (two_below h.c bl hlt).1
  have h1 : w4.cell? ⟨w1.heap.size, 1, none⟩ = some (.int .i64 K) := (hg.cell_far ⟨w1.heap.size, 1, none⟩ hlt' hne).trans (two_below h.c bl hlt).2
  have hf : Wrt w4 w1.heap.size 0 2 := fun t ht => (hg.frozen_far ⟨w1.heap.size, 0 + t, none⟩ hlt' hne).trans (h.f.below bl hlt t ht)
  have hb4 : Below w1.heap.size w1 w4 := grow_below h.bel.size h.bel (owns_mono h.own (Nat.le_of_lt h.lt)) hg
  have hs4 : w2.heap.size ≤ w4.heap.size := Nat.le_trans h.size (Nat.le_trans (by show w3.heap.size ≤ (w3.heap.push _).size; simp) hg.size)
  have hw : Wrote (fun b' _ => b' = w1.heap.size) w4 (w4.setCell ⟨w1.heap.size, 0, none⟩ (.slice (some ⟨g, 0, none⟩) (k + 1) cap)) := Wrote.setCell (S := fun b' _ => b' = w1.heap.size) (Wrote.refl _ _) rfl _
  refine ⟨h0, hf.zero 0 (by omega), hb4.trans (hw.below (fun b' o e => by omega)), h.lt, by rw [hw.size]; exact hs4, ⟨World.cell?_setCell_same _ _ _ h0, by rw [cell_setCell_ne _ _ _ _ _ _ (Or.inr (by omega))]; exact h1⟩, hf.setCell _ _, ?_⟩
  rw [tnl_succ, cls_append]
  obtain ⟨hl, he | ⟨g', cap', cur, hv, hg', hbk, hc, hm, hs, ht⟩⟩ := ho
  · exact absurd he.1 (by simp)
  · exact ⟨hl, Or.inr ⟨g', cap', cur, hv, hg', by rw [hw.block g' (fun o e => by have := h.lt; omega)]; exact hbk, hc, hm, hs, ht⟩⟩

/-- It begins. -/
theorem tt_new (w1 : World) (K : Int) (P : Nat → Nat → Bool) (n : Nat) : ∃ w2, w2 = w1.alloc (.cells #[.slice none 0 0, .int .i64 K] 24) ∧ Below w1.heap.size w1 w2 ∧ Tt w1 w2 w2 (.slice none 0 0) K P n 0 := by
  obtain ⟨w2, b2⟩ := lbox w1 (.slice none 0 0) (.int .i64 K)
  refine ⟨w2, b2.eq, b2.bel, b2.bel, by have := b2.size; omega, Nat.le_refl _, ⟨b2.c0, b2.c1⟩, ?_, World.ownsRow_nil _ _ _ _⟩
  intro t _
  rw [b2.eq]
  unfold World.frozen?
  rw [show (w1.alloc (.cells #[.slice none 0 0, .int .i64 K] 24)).heap[w1.heap.size]? = some (.cells #[.slice none 0 0, .int .i64 K] 24) by show (w1.heap.push _)[w1.heap.size]? = _; simp]
  simp

/-- It is made. -/
theorem Tt.done {w1 w2 wr : World} {v : Value} {K : Int} {P : Nat → Nat → Bool} {n : Nat} (h : Tt w1 w2 wr v K P n n) (hn : n ≤ 4398046511104) : ∃ ao c, v = .slice ao n c ∧ Lf wr ao n (at' (tnl P n n)) := by
  obtain ⟨ao, c, e, hl⟩ := ownC_lf (w := wr) (B := w2.heap.size) (v := v) (L := tnl P n n) (by unfold OwnC; rw [tnl_len]; exact h.own) (by rw [tnl_len]; exact hn)
  rw [tnl_len] at e hl
  exact ⟨ao, c, e, hl⟩

end Cls
end Go.Proofs.YtppmmobmoanagaaDoor
