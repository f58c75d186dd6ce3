/- Contract of block.Correlate, of any rows and any size. -/
import Derived.Test.YtdffofpoilfhiaaDoorBlkChk
import Derived.Test.YtdffofpoilfhiaaDoorBlkCnt
import Derived.Test.YtdffofpoilfhiaaDoorBlkCyc
import Derived.Test.YtdffofpoilfhiaaDoorBlkJoi
import Derived.Test.YtdffofpoilfhiaaDoorBlkItr
import Derived.Sort.CutIn
namespace Go.Proofs.YtdffofpoilfhiaaDoor
open Go.RowKit Res

@[go_sem] theorem semAt_round (l : Nat) (ρ : Operand → Value) (o : Oper) (h : ∀ c, o.op ≠ .defer c) : Oper.semAt (some l) ρ o = execOp ρ o := Oper.semAt_some l ρ o h

/-! the sums, block by block -/
def flatC (m n E : Nat) (V : Nat → Int) (xs : List (Blk m n)) : List Value := xs.flatMap fun x => cellsOf (fun t => V (x.1 + t)) (tl m n E x.1)
theorem cellsOf_app (V : Nat → Int) (a b : Nat) : cellsOf V a ++ cellsOf (fun t => V (a + t)) b = cellsOf V (a + b) := by
  unfold cellsOf
  rw [List.range_add, List.map_append, List.map_map]
  rfl
theorem flat_range (m n E : Nat) (V : Nat → Int) : ∀ L : Nat, (((List.range L).map (· * E)).flatMap fun s => cellsOf (fun t => V (s + t)) (tl m n E s)) = cellsOf V (min (L * E) (n + 1 - m))
  | 0 => by simp [cellsOf]
  | L + 1 => by
    rw [List.range_succ, List.map_append, List.flatMap_append, flat_range m n E V L, List.map_singleton, List.flatMap_singleton]
    have e : (L + 1) * E = L * E + E := by rw [Nat.add_mul, Nat.one_mul]
    rw [e]
    generalize L * E = q
    unfold tl
    by_cases h : q ≤ n + 1 - m
    · rw [Nat.min_eq_left h, cellsOf_app]
      congr 1
      omega
    · rw [show min E (n + 1 - m - q) = 0 by omega, show min (q + E) (n + 1 - m) = min q (n + 1 - m) by omega]
      simp [cellsOf]
theorem flat_all {m n E : Nat} {xs : List (Blk m n)} (h : AllBlk m n E xs) (V : Nat → Int) : flatC m n E V xs = cellsOf V (n + 1 - m) := by
  have e : flatC m n E V xs = ((xs.map (·.1)).flatMap fun s => cellsOf (fun t => V (s + t)) (tl m n E s)) := by rw [List.flatMap_map]; rfl
  rw [e, h.1, flat_range]
  congr 1
  have := h.2
  omega
theorem flat_snoc (m n E : Nat) (V : Nat → Int) (pre : List (Blk m n)) (x : Blk m n) : flatC m n E V (pre ++ [x]) = flatC m n E V pre ++ cellsOf (fun t => V (x.1 + t)) (tl m n E x.1) := by
  unfold flatC; rw [List.flatMap_append, List.flatMap_singleton]
theorem flat_len (m n E : Nat) (V : Nat → Int) (pre : List (Blk m n)) : (flatC m n E V pre).length ≤ pre.length * E := by
  induction pre with
  | nil => simp [flatC]
  | cons x pre ih =>
    have e : (flatC m n E V (x :: pre)).length = tl m n E x.1 + (flatC m n E V pre).length := by simp [flatC, cellsOf]
    rw [e, List.length_cons, Nat.add_mul, Nat.one_mul]
    have : tl m n E x.1 ≤ E := Nat.min_le_left _ _
    omega

theorem owns_below {w w' : World} {base e size k : Nat} {v : Value} {xs : List Value} (h : w.ownsRow base e size v k xs) (hb : Below w.heap.size w w') : w'.ownsRow base e size v k xs := by
  refine ⟨h.1, ?_⟩
  rcases h.2 with h0 | ⟨g, cap, cur, hv, hg, hc, h1⟩
  · exact .inl h0
  · exact .inr ⟨g, cap, cur, hv, hg, (hb.block g (Array.getElem?_eq_some_iff.1 hc).1).trans hc, h1⟩
theorem boxed_below {w w' : World} {B : Nat} {t : TypeId} {v : Value} (h : Boxed w B t v) (hb : Below w.heap.size w w') : Boxed w' B t v := (hb.block B h.lt).trans h
theorem keeps_below {w w' : World} (hb : Below w.heap.size w w') : KeepsOthers w w' := ⟨hb.size, fun k _ hk _ => (hb.block k (Array.getElem?_eq_some_iff.1 hk).1).trans hk⟩
theorem own_self {w : World} {base e size k : Nat} {v : Value} {xs : List Value} (h : w.ownsRow base e size v k xs) (hk : k = 0 ∧ xs = [] → False) : ∃ g cap, v = .slice (some ⟨g, 0, none⟩) k cap := by
  rcases h.2 with ⟨_, h0⟩ | ⟨g, cap, cur, hv, _⟩
  · exact absurd ⟨h0, by have := h.1; rw [h0, Nat.zero_mul] at this; exact List.eq_nil_of_length_eq_zero this⟩ hk
  · exact ⟨g, cap, hv⟩

/-- A box for three slices that are not there yet. -/
structure Bare (w : World) (b : Nat) : Prop where
  lt : b < w.heap.size
  cell : ∀ k, k < 3 → w.cell? ⟨b, k, none⟩ = some (.slice none 0 0)
  wrt : Wrt w b 0 3
theorem Bare.below {w w' : World} {b : Nat} (h : Bare w b) (hb : Below w.heap.size w w') : Bare w' b :=
  ⟨Nat.lt_of_lt_of_le h.lt hb.size, fun k hk => (hb.cell (p := ⟨b, k, none⟩) h.lt).trans (h.cell k hk), h.wrt.below hb h.lt⟩
theorem bare_new (w : World) (ty : TypeId) : ∃ v, v = w.alloc (.cells #[.slice none 0 0, .slice none 0 0, .slice none 0 0] ty) ∧ Bare v w.heap.size ∧ Below w.heap.size w v := by
  obtain ⟨v, h1, h2, h3, h4, h5⟩ := bare_box w ty
  exact ⟨v, h1, ⟨h5, h2, h3⟩, h4⟩
theorem bare_set {W v : World} {b S : Nat} {R : Nat → Nat} {Z : Nat → Nat → Int} (h : Bare v b) (hS : 1 ≤ S) (tr : Trio v R S Z) (hb : Below W.heap.size W v) (hle : W.heap.size ≤ b) :
    ∃ w', w' = (((v.setCell ⟨b, 0, none⟩ (.slice (some ⟨R 0, 0, none⟩) S S)).setCell ⟨b, 1, none⟩ (.slice (some ⟨R 1, 0, none⟩) S S)).setCell ⟨b, 2, none⟩ (.slice (some ⟨R 2, 0, none⟩) S S)) ∧
      (∀ k, k < 3 → w'.cell? ⟨b, k, none⟩ = some (.slice (some ⟨R k, 0, none⟩) S S)) ∧ Trio w' R S Z ∧ Below W.heap.size W w' := by
  refine ⟨_, rfl, fun k hk => ?_, fun k hk => ?_, below_three hb hle _ _ _⟩
  · obtain ⟨c0, c1, c2⟩ := set3_cells (.slice (some ⟨R 0, 0, none⟩) S S) (.slice (some ⟨R 1, 0, none⟩) S S) (.slice (some ⟨R 2, 0, none⟩) S S) (h.cell 0 (by omega)) (h.cell 1 (by omega)) (h.cell 2 (by omega))
    have : k = 0 ∨ k = 1 ∨ k = 2 := by omega
    rcases this with rfl | rfl | rfl <;> assumption
  · refine ⟨(tr k hk).1.three_set (fun e => ?_) _ _ _, by rw [size_three]; exact (tr k hk).2⟩
    have h1 := (tr k hk).1.zero 0 (by omega)
    rw [e, h.cell 0 (by omega)] at h1
    cases h1

theorem cell_grown {w w' : World} {row : Option Nat} (hg : w.grownBy w' row) {b : Nat} (o : Nat) (hb : b < w.heap.size) (hne : some b ≠ row) : w'.cell? ⟨b, o, none⟩ = w.cell? ⟨b, o, none⟩ := by
  unfold World.cell?
  rw [hg.block b hb hne]
theorem boxed_set_ne {w : World} {B B' : Nat} {t : TypeId} {v u : Value} (h : Boxed w B t v) (hne : B ≠ B') : Boxed (w.setCell ⟨B', 0, none⟩ u) B t v := h.kept (grownBy_setCell' w B' u) (fun e => hne (by simpa using e))
/-- A row is appended to what a box holds: all that the round owes. -/
theorem append_row {W wd : World} {B7 B8 k r g b b' : Nat} {xs : List Value} {v : Value} {F : Nat → Int} (bx : Boxed W B8 22 v) (own : W.ownsRow B7 40 1 v k xs) (hb : Below W.heap.size W wd) (h7 : B7 ≤ W.heap.size) (h8 : B7 ≤ B8) (hf : Fam wd g 0 r F) (hr : 1 ≤ r) (hlen : (k + r) * 8 ≤ 140737488355328) (hbb : W.heap.size ≤ b) (hbd : b < wd.heap.size) (hb' : b' < B7) :
    ∃ g' cap we, (Builtin.append_ #[22, 22] 22 #[v, .slice (some ⟨g, 0, none⟩) r r]).run Tryd.prog wd = .ok (.slice (some ⟨g', 0, none⟩) (k + r) cap) we ∧ we.cell? ⟨B8, 0, none⟩ = some v ∧ we.frozen? ⟨B8, 0, none⟩ = false ∧ (∀ o, we.cell? ⟨b, o, none⟩ = wd.cell? ⟨b, o, none⟩) ∧ (∀ o, we.cell? ⟨b', o, none⟩ = wd.cell? ⟨b', o, none⟩) ∧
      ∀ wf, wf = we.setCell ⟨B8, 0, none⟩ (.slice (some ⟨g', 0, none⟩) (k + r) cap) → Boxed wf B8 22 (.slice (some ⟨g', 0, none⟩) (k + r) cap) ∧ wf.ownsRow B7 40 1 (.slice (some ⟨g', 0, none⟩) (k + r) cap) (k + r) (xs ++ cellsOf F r) ∧ KeepsOthers W wf ∧ Below B7 W wf ∧ (∀ (c : Nat) (u : Value), c ≠ B8 → Boxed W c 3 u → Boxed wf c 3 u) ∧ (∀ o, wf.cell? ⟨b, o, none⟩ = wd.cell? ⟨b, o, none⟩) ∧ (∀ o, wf.cell? ⟨b', o, none⟩ = wd.cell? ⟨b', o, none⟩) := by
  obtain ⟨i0, hi, hz0, hz1, hz2⟩ := info_parts infoU
  have bxd := boxed_below bx hb
  have ownd := owns_below own hb
  obtain ⟨v', we, hrun, own', grow, _, _⟩ := run_append_own_at (P := Tryd.prog) wd B7 22 22 40 i0 (.int .u64 0) 1 8 Tryd.underlying22 hi hz0 hz1 hz2 rfl (by decide) v k xs ownd ⟨g, 0, none⟩ r r (cellsOf F r) (by simp [cellsOf]) (cells_at hf) (cells_one F r) (by unfold maxLen; omega) hlen (Nat.le_trans h7 hb.size)
  obtain ⟨g', cap, rfl⟩ := own_self own' (fun h => by omega)
  have bxe : Boxed we B8 22 v := bxd.kept grow (bxd.not_row (by decide) ownd)
  have hob : ∀ c, v.ownBlock = some c → B7 ≤ c ∧ c < W.heap.size := fun c hc => World.ownsRow.lt own c hc
  have n1 : some b ≠ v.ownBlock := fun e => by have := hob b e.symm; omega
  have n2 : some b' ≠ v.ownBlock := fun e => by have := hob b' e.symm; omega
  have h8W : B8 < W.heap.size := bx.lt
  have q1 : ∀ o, we.cell? ⟨b, o, none⟩ = wd.cell? ⟨b, o, none⟩ := fun o => cell_grown grow o hbd n1
  have q2 : ∀ o, we.cell? ⟨b', o, none⟩ = wd.cell? ⟨b', o, none⟩ := fun o => cell_grown grow o (by have := hb.size; omega) n2
  refine ⟨g', cap, we, hrun, bxe.cell, bxe.frozen, q1, q2, fun wf e => ?_⟩
  subst e
  have bxf := bxe.set (.slice (some ⟨g', 0, none⟩) (k + r) cap)
  refine ⟨bxf, own'.kept (grownBy_setCell' we B8 _) (.inr (bxe.not_row (by decide) own').symm), ?_, ?_, fun c u hc hu => ?_, fun o => ?_, fun o => ?_⟩
  · refine (keeps_below hb).trans ((KeepsOthers.of_grownBy grow fun j o ej hj => ?_).trans (KeepsOthers.setCell _ _ _))
    rcases ownd.2 with ⟨rfl, _⟩ | ⟨g0, cap0, cur, rfl, _, hgb, _⟩
    · simp [Value.ownBlock] at ej
    · obtain rfl : g0 = j := by simpa [Value.ownBlock] using ej
      rw [hgb] at hj; cases hj; rfl
  · exact ((hb.mono h7).grown grow (Nat.le_trans h7 hb.size) (fun j ej => (hob j ej).1)).setCell (p := ⟨B8, 0, none⟩) h8 _
  · have hud := boxed_below hu hb
    exact boxed_set_ne (hud.kept grow (hud.not_row (by decide) ownd)) hc
  · rw [cell_setCell_ne _ _ _ _ _ _ (Or.inl (by omega))]; exact q1 o
  · rw [cell_setCell_ne _ _ _ _ _ _ (Or.inl (by omega))]; exact q2 o

theorem turned_row {w4 w5 : World} {g n S : Nat} {P : Nat → Int} (f5 : Fam w5 g 0 n (fun t => pd n P (n - 1 - t))) (f4 : Fam w4 g 0 S (pd n P)) (o5 : Wrote (fun b o => b = g ∧ o < n) w4 w5) : Fam w5 g 0 S (pd n (fun j => P (n - 1 - j))) := fun t ht => by
  by_cases h : t < n
  · have e : pd n (fun j => P (n - 1 - j)) t = pd n P (n - 1 - t) := by unfold pd; rw [if_pos h, if_pos (by omega)]
    rw [e]; exact f5 t h
  · have e : pd n (fun j => P (n - 1 - j)) t = pd n P t := by unfold pd; rw [if_neg h, if_neg h]
    rw [e]; exact (o5.cell _ _ (by omega)).trans (f4 t ht)

set_option maxRecDepth 100000 in
set_option maxHeartbeats 4000000 in
theorem bcor_row (pb pof tb tof n m ca cb l S : Nat) (h1 : 1 ≤ n) (h2 : n ≤ m) (hm : m ≤ 1000000) (hS : S = 2 ^ l) (hl : l ≤ 12) (hnS : n ≤ S) (hcb : m ≤ cb) (P T : Nat → Int) (hP0 : ∀ t, 0 ≤ P t) (hT0 : ∀ t, 0 ≤ T t) (hP1 : ∀ t, P t ≤ 18446744073709551615) (hT1 : ∀ t, T t ≤ 18446744073709551615) (hok : ¬ 18446744073709551616 ≤ gr n P * gr m T * (n : Int)) (w : World) (hT : Tab w) (fp : Fam w pb pof n P) (ft : Fam w tb tof m T) :
    Calls Tryd.prog 18 #[.slice (some ⟨pb, pof, none⟩) n ca, .slice (some ⟨tb, tof, none⟩) m cb, .int .i64 (S : Int)] w fun e w' =>
      ∃ g cap, e = .returned (.tuple #[.slice (some ⟨g, 0, none⟩) (m + 1 - n) cap, .int .i64 (ct n m S), .int .i64 0]) ∧ Fam w' g 0 (m + 1 - n) (cr n P T) ∧ Below w.heap.size w w' ∧ m + 1 - n ≤ cap := by
  have hle : S ≤ 4096 := by rw [hS]; exact Nat.pow_le_pow_right (by omega) hl
  have hsI : (S : Int) = 2 ^ l := by rw [hS, Int.natCast_pow]; rfl
  have hz : szb n S = true := szb_of hl hsI (by omega)
  have hbc : bc n m P T S = 0 := bc_ok (by omega) hz hok
  have hpl : pb < w.heap.size := fp.lt (by omega)
  have htl : tb < w.heap.size := ft.lt (by omega)
  -- the boxes of t and of size
  obtain ⟨w1, x1⟩ := boxS w (.slice (some ⟨tb, tof, none⟩) m cb) 22
  obtain ⟨w2, x2⟩ := boxS w1 (.int .i64 (S : Int)) 3
  have z1 : w.heap.size + 1 = w1.heap.size := by rw [x1.eq, size_alloc]
  have b2 : Below w.heap.size w w2 := x1.bel.trans (x2.bel.mono (by omega))
  have c1 : Hid _ := bcheck_any (some ⟨pb, pof, none⟩) (some ⟨tb, tof, none⟩) n m ca cb (S : Int) (by omega) (by omega) P T hP1 hT1 w2 (fun _ => ⟨pb, pof, rfl, fp.below b2 hpl⟩) (fun _ => ⟨tb, tof, rfl, ft.below b2 htl⟩)
  rw [hbc] at c1
  have E1 : Hid _ := x1.eq
  have E2 : Hid _ := x2.eq
  have Z1 : Hid _ := z1
  have ct2 : w2.cell? ⟨w.heap.size, 0, none⟩ = some (.slice (some ⟨tb, tof, none⟩) m cb) := (x2.bel.cell (p := ⟨w.heap.size, 0, none⟩) x1.size).trans x1.cell
  have cs2 : w2.cell? ⟨w1.heap.size, 0, none⟩ = some (.int .i64 (S : Int)) := x2.cell
  have y1 : w.heap.size < w1.heap.size := x1.size
  have y2 : w1.heap.size < w2.heap.size := x2.size
  obtain ⟨w3, e3⟩ : ∃ w3, w3 = (w2.alloc (.cells #[.int .i64 (n : Int)] 3)).drew := ⟨_, rfl⟩
  have E3 : Hid _ := e3
  have b3 : Below w2.heap.size w2 w3 := by rw [e3]; exact ((Below.refl _ _).alloc (Nat.le_refl _) _).drew
  have y3 : w2.heap.size < w3.heap.size := by rw [e3]; show _ < (w2.alloc _).heap.size; rw [size_alloc]; omega
  have cm3 : w3.cell? ⟨w2.heap.size, 0, none⟩ = some (.int .i64 (n : Int)) := by rw [e3]; exact (Boxed.new w2 3 (.int .i64 (n : Int))).cell
  have ct3 : w3.cell? ⟨w.heap.size, 0, none⟩ = some (.slice (some ⟨tb, tof, none⟩) m cb) := (b3.cell (p := ⟨w.heap.size, 0, none⟩) (by show w.heap.size < _; omega)).trans ct2
  have cs3 : w3.cell? ⟨w1.heap.size, 0, none⟩ = some (.int .i64 (S : Int)) := (b3.cell (p := ⟨w1.heap.size, 0, none⟩) (by show w1.heap.size < _; omega)).trans cs2
  have B03 : Hid (Below w.heap.size w w3) := b2.trans (b3.mono (by omega))
  have T3 : Tab w3 := hT.below B03.out (tab_lt hT)
  have c2 : Hid _ := slides_yes n m (by omega) (by omega) w3
  have c3 : Hid _ := bwidened_row pb pof n ca S hle P w3 (fp.below B03.out hpl)
  have Ft : Hid (Fam w tb tof m T) := ft
  refine callsIn_wide.1 (callsIn_of_wp_marks (n := 9) Tryd.func18 rfl trivial ?_ rfl)
  refine wpIn_wide.2 ?_
  simp only [Tryd.ntmps18, List.size_toArray, List.length_cons, List.length_nil, Nat.reduceAdd, Nat.reduceSub, Array.replicate_succ, Array.replicate_zero, List.push_toArray, List.append_toArray, List.nil_append, List.cons_append]
  have HS2 : Hid (S = 2 ^ l) := hS
  have Hok : Hid _ := hok
  clear z1 x1 x2 hok hS hsI hz hbc e3 b3 b2 fp ft
  go_wp2_with fail
  rw [← E1.out, ← E2.out, Z1.out]
  refine Calls.mono (Hid.out c1) ?_; rintro e w' ⟨rfl, hw'⟩; subst w'
  clear E1 E2 Z1 c1
  generalize w1.heap.size = B1 at *
  go_wp2_with fail
  have nn : w2.heap.size ≠ w.heap.size := by omega
  go_region_held3 (fun w' => w'.cell? ⟨w.heap.size, 0, none⟩ = some (.slice (some ⟨tb, tof, none⟩) m cb)) (go_keep) (fail)
  rw [← E3.out]
  clear E3 nn
  generalize w2.heap.size = B2 at *
  go_wp2_with fail
  refine Calls.mono (Hid.out c2) ?_; rintro e w' ⟨rfl, hw'⟩; subst w'
  go_wp2_with fail
  refine Calls.mono (Hid.out c3) ?_; rintro e w4 ⟨rfl, f4, r4, b4, s4⟩
  have T4 : Tab w4 := T3.below b4 (tab_lt T3)
  have ct4 : w4.cell? ⟨w.heap.size, 0, none⟩ = some (.slice (some ⟨tb, tof, none⟩) m cb) := (b4.cell (p := ⟨w.heap.size, 0, none⟩) (by show w.heap.size < _; omega)).trans ct3
  have cs4 : w4.cell? ⟨B1, 0, none⟩ = some (.int .i64 (S : Int)) := (b4.cell (p := ⟨B1, 0, none⟩) (by show B1 < _; omega)).trans cs3
  have cm4 : w4.cell? ⟨B2, 0, none⟩ = some (.int .i64 (n : Int)) := (b4.cell (p := ⟨B2, 0, none⟩) (by show B2 < _; omega)).trans cm3
  have B04 : Hid (Below w.heap.size w w4) := B03.out.trans (b4.mono (by omega))
  have c4 : Hid _ := reverse_row w3.heap.size n S h1 (by omega) (pd n P) w4 (f4.head n hnS) (r4.head n hnS)
  have F4 : Hid (Fam w4 w3.heap.size 0 S (pd n P)) := f4
  have hnSI : (n : Int) ≤ (S : Int) := by omega
  clear f4 r4 b4 c3 c2
  generalize hB3 : w3.heap.size = B3 at *
  clear hB3
  go_wp2_with fail
  refine Calls.mono (Hid.out c4) ?_; rintro e w5 ⟨⟨v5, rfl⟩, f5, o5⟩
  have F5 : Fam w5 B3 0 S (pd n (fun j => P (n - 1 - j))) := turned_row f5 F4.out o5
  have b5 : Below B3 w4 w5 := o5.below (fun b o e => by omega)
  have z5 : w5.heap.size = w4.heap.size := o5.size
  have T5 : Tab w5 := T4.wrote o5 (fun o e => by have := tab_lt hT; omega)
  have ct5 : w5.cell? ⟨w.heap.size, 0, none⟩ = some (.slice (some ⟨tb, tof, none⟩) m cb) := (b5.cell (p := ⟨w.heap.size, 0, none⟩) (by show w.heap.size < _; omega)).trans ct4
  have cs5 : w5.cell? ⟨B1, 0, none⟩ = some (.int .i64 (S : Int)) := (b5.cell (p := ⟨B1, 0, none⟩) (by show B1 < _; omega)).trans cs4
  have cm5 : w5.cell? ⟨B2, 0, none⟩ = some (.int .i64 (n : Int)) := (b5.cell (p := ⟨B2, 0, none⟩) (by show B2 < _; omega)).trans cm4
  have B05 : Hid (Below w.heap.size w w5) := B04.out.trans (b5.mono (by omega))
  have c5 : Hid _ := bforward_any l S HS2.out hl B3 0 S _ (pd_nonneg fun t => hP0 _) w5 T5 F5
  have y5 : B3 < w5.heap.size := by omega
  clear f5 o5 F4 F5 b5 z5 c4 T4 ct4 cs4 cm4 B04
  go_wp2_with fail
  refine Calls.mono (Hid.out c5) ?_; rintro e w6 ⟨G, rfl, tr6, b6⟩
  obtain ⟨w7, x7⟩ := boxR w6 G S 45
  have b7 : Below w5.heap.size w5 w7 := b6.trans (x7.bel.mono b6.size)
  have y6 : w5.heap.size ≤ w6.heap.size := b6.size
  have y7 : w6.heap.size < w7.heap.size := by have := x7.size; omega
  have T7 : Tab w7 := T5.below b7 (tab_lt T5)
  have ct7 : w7.cell? ⟨w.heap.size, 0, none⟩ = some (.slice (some ⟨tb, tof, none⟩) m cb) := (b7.cell (p := ⟨w.heap.size, 0, none⟩) (by show w.heap.size < _; omega)).trans ct5
  have cs7 : w7.cell? ⟨B1, 0, none⟩ = some (.int .i64 (S : Int)) := (b7.cell (p := ⟨B1, 0, none⟩) (by show B1 < _; omega)).trans cs5
  have cm7 : w7.cell? ⟨B2, 0, none⟩ = some (.int .i64 (n : Int)) := (b7.cell (p := ⟨B2, 0, none⟩) (by show B2 < _; omega)).trans cm5
  have B07 : Hid (Below w.heap.size w w7) := B05.out.trans (b7.mono (by omega))
  have TR7 : Hid (Trio w7 G S (fun k => dft k (rt k l) S (pd n (fun j => P (n - 1 - j))))) := tr6.below x7.bel (Nat.le_refl _)
  have KP7 : Hid (∀ k, k < 3 → w7.cell? ⟨w6.heap.size, k, none⟩ = some (.slice (some ⟨G k, 0, none⟩) S S)) := x7.cell
  have E7 : Hid _ := x7.eq
  obtain ⟨N, hN⟩ : ∃ N, N + n = m + 1 := ⟨m + 1 - n, by omega⟩
  have hNI : (m : Int) - (n : Int) + 1 = (N : Int) := by omega
  obtain ⟨i0, hi, hz0, hz1, hz2⟩ := info_parts infoU
  obtain ⟨w8, hmk, own8, g8⟩ := run_make_own (P := Tryd.prog) w7 w7.heap.size 22 40 i0 (.int .u64 0) 1 Tryd.underlying22 hi hz0 hz1 .i64 .i64 N (by rw [hz2]; omega) (by unfold maxLen; omega) (Nat.le_refl _)
  have b8 : Below w7.heap.size w7 w8 := (Below.refl _ _).grown g8 (Nat.le_refl _) (fun k e => by cases e)
  obtain ⟨w9, x9⟩ : ∃ w9, w9 = w8.alloc (.cells #[.slice (some ⟨w7.heap.size, 0, none⟩) 0 N] 22) := ⟨_, rfl⟩
  have E9 : Hid _ := x9
  have bx9 : Boxed w9 w8.heap.size 22 (.slice (some ⟨w7.heap.size, 0, none⟩) 0 N) := by rw [x9]; exact Boxed.new _ _ _
  have own9 : w9.ownsRow w7.heap.size 40 1 (.slice (some ⟨w7.heap.size, 0, none⟩) 0 N) 0 [] := by rw [x9]; exact own8.alloc _
  have b9 : Below w7.heap.size w7 w9 := by rw [x9]; exact b8.alloc b8.size _
  have y8 : w7.heap.size < w8.heap.size := (World.ownsRow.lt own8 w7.heap.size rfl).2
  have y9 : w8.heap.size < w9.heap.size := by rw [x9, size_alloc]; omega
  have ct9 : w9.cell? ⟨w.heap.size, 0, none⟩ = some (.slice (some ⟨tb, tof, none⟩) m cb) := (b9.cell (p := ⟨w.heap.size, 0, none⟩) (by show w.heap.size < _; omega)).trans ct7
  have cs9 : w9.cell? ⟨B1, 0, none⟩ = some (.int .i64 (S : Int)) := (b9.cell (p := ⟨B1, 0, none⟩) (by show B1 < _; omega)).trans cs7
  have cm9 : w9.cell? ⟨B2, 0, none⟩ = some (.int .i64 (n : Int)) := (b9.cell (p := ⟨B2, 0, none⟩) (by show B2 < _; omega)).trans cm7
  have c7 : Hid _ := blocks_any n m S w9
  have W7 : Hid (And (Boxed w9 w8.heap.size 22 (.slice (some ⟨w7.heap.size, 0, none⟩) 0 N)) (w9.ownsRow w7.heap.size 40 1 (.slice (some ⟨w7.heap.size, 0, none⟩) 0 N) 0 [])) := ⟨bx9, own9⟩
  have B9 : Hid (Below w7.heap.size w7 w9) := b9
  have hnm : (n : Int) ≤ (m : Int) := by omega
  have cm7r : (w6.alloc (.cells #[.slice (some ⟨G 0, 0, none⟩) S S, .slice (some ⟨G 1, 0, none⟩) S S, .slice (some ⟨G 2, 0, none⟩) S S] 45)).cell? ⟨B2, 0, none⟩ = some (.int .i64 (n : Int)) := by rw [← E7.out]; exact cm7
  have hmkr : (Instr.makeSlice 22 (.int .i64 0) (.int .i64 (N : Int))).run Tryd.prog (w6.alloc (.cells #[.slice (some ⟨G 0, 0, none⟩) S S, .slice (some ⟨G 1, 0, none⟩) S S, .slice (some ⟨G 2, 0, none⟩) S S] 45)) = .ok (.slice (some ⟨w7.heap.size, 0, none⟩) 0 N) w8 := by rw [← E7.out]; exact hmk
  have cs9r : (w8.alloc (.cells #[.slice (some ⟨w7.heap.size, 0, none⟩) 0 N] 22)).cell? ⟨B1, 0, none⟩ = some (.int .i64 (S : Int)) := by rw [← E9.out]; exact cs9
  have cm9r : (w8.alloc (.cells #[.slice (some ⟨w7.heap.size, 0, none⟩) 0 N] 22)).cell? ⟨B2, 0, none⟩ = some (.int .i64 (n : Int)) := by rw [← E9.out]; exact cm9
  clear tr6 b6 x7 b7 g8 b8 own8 x9 bx9 own9 b9 c5 ct5 cs5 cm5 T5 hmk E7
  go_wp2_with fail
  rw [← E9.out]
  refine Calls.mono (Hid.out c7) ?_; rintro e w10 ⟨rfl, q1, q2, q3, b10, z10⟩
  clear cm7r hmkr cs9r cm9r E9 c7
  go_wp2_with fail
  obtain ⟨E, hE⟩ : ∃ E, E + n = S + 1 := ⟨S + 1 - n, by omega⟩
  have B10 : Hid (Below w7.heap.size w7 w10) := B9.out.trans (b10.mono (by omega))
  have bx10 := boxed_below W7.out.1 b10
  have own10 := owns_below W7.out.2 b10
  obtain ⟨V, hV⟩ : ∃ V : Nat → Int, V = cr n P T := ⟨_, rfl⟩
  have hseq := blocks_stops (9 - 1) n m E w9.heap.size (S : Int) (by omega) hm (by omega) (by omega) (by omega) h2 (by omega) w10 (by omega) q1.cell q2.cell q3.cell
  have HV : Hid (V = cr n P T) := hV
  clear hV
  generalize hB6 : w6.heap.size = B6 at *
  generalize hB7 : w7.heap.size = B7 at *
  generalize hB8 : w8.heap.size = B8 at *
  generalize hB9 : w9.heap.size = B9' at *
  refine (wpIn_wide (n := 9)).1 ?_
  refine' wpIn_rangeFunc_ownF (F := Fence.wide) (n := 9) rfl (by omega) (gf := 44) (lb := #[.pointer (some ⟨B9' + 1 + 1, 0, none⟩), .pointer (some ⟨B9', 0, none⟩), .pointer (some ⟨B9' + 1, 0, none⟩)]) rfl trivial (enters_of Tryd.func44 (by kernel_rfl) rfl) hseq (fun h k => h.trans k)
    (fun W l o o' hl h hc hw => have B := belowK_b (n₀ := w10.heap.size) (w := w10) (Nat.le_refl _) W l o o' hl h hc hw; ⟨B.cell (p := ⟨B9', 0, none⟩) (by show B9' < _; omega), B.cell (p := ⟨B9' + 1, 0, none⟩) (by show B9' + 1 < _; omega), B.cell (p := ⟨B9' + 1 + 1, 0, none⟩) (by show B9' + 1 + 1 < _; omega)⟩)
    (Below.refl _ _) (fun _ => rfl)
    (fun pre W => ((∃ v, Boxed W B8 22 v ∧ W.ownsRow B7 40 1 v (flatC n m E V pre).length (flatC n m E V pre) ∧ True) ∧ (Boxed W B9' 3 (.int .i64 (n : Int)) ∧ (Boxed W (B9' + 1) 3 (.int .i64 (m : Int)) ∧ Boxed W (B9' + 1 + 1) 3 (.int .i64 (S : Int))))) ∧ Below B7 w7 W)
    (fun _ _ _ => False)
    (OwnFrom.and (OwnFrom.and (Go.Own.from (holdsRow_own B7 B8 22 40 1 (fun pre => (flatC n m E V pre).length) (fun pre => flatC n m E V pre) (fun _ _ => True)) _) (OwnFrom.and (Go.Own.from (boxed_own _ _ (fun _ => .int .i64 (n : Int))) _) (OwnFrom.and (Go.Own.from (boxed_own _ _ (fun _ => .int .i64 (m : Int))) _) (Go.Own.from (boxed_own _ _ (fun _ => .int .i64 (S : Int))) _)))) (ownFrom_below (by omega) (by omega)))
    (fun c s A B row hs hg hr => hs)
    ⟨⟨⟨_, bx10, own10, trivial⟩, q1, q2, q3⟩, B10.out⟩ _ ?assign ?body ?done ?stop
  case assign =>
    intro l x W K hK
    gi_wp2
    exact hK
  case stop =>
    rintro D c pre W _ _ h _
    exact h.elim
  case done =>
    rintro D xs W hD hS ⟨⟨⟨v, bx, own, _⟩, _⟩, bW⟩ hK
    have ef := flat_all hS V
    rw [ef, show (cellsOf V (m + 1 - n)).length = N by simp [cellsOf]; omega, show m + 1 - n = N by omega] at own
    obtain ⟨g, cap, rfl⟩ := own_self own (fun h => by omega)
    have cmW : W.cell? ⟨B2, 0, none⟩ = some (.int .i64 (n : Int)) := (bW.cell (p := ⟨B2, 0, none⟩) (by show B2 < _; omega)).trans cm7
    have csW : W.cell? ⟨B1, 0, none⟩ = some (.int .i64 (S : Int)) := (bW.cell (p := ⟨B1, 0, none⟩) (by show B1 < _; omega)).trans cs7
    have c8W : W.cell? ⟨B8, 0, none⟩ = some (.slice (some ⟨g, 0, none⟩) N cap) := bx.cell
    have cc : Hid _ := fun v => count_any n m S v
    have HO : Hid _ := own
    have HB : Hid _ := bW
    have HK : Hid _ := hK
    clear own bW hK bx ef hS hseq
    go_wp2_with fail
    go_quiet ((go_at_call 14; exact Calls.quiet_of_same (cc.out _)))
    go_wp2_with fail
    have hKd : (W.drewN nq).heap[D]? = some (.deferred (some [])) := HK.out
    refine ⟨by simp, .inl ⟨_, _, rfl, run_takeDeferred hKd, ?_⟩⟩
    have hOd : (W.drewN nq).ownsRow B7 40 1 (.slice (some ⟨g, 0, none⟩) N cap) N (cellsOf V N) := HO.out
    have own' : Own ((W.drewN nq).putObj D (.deferred none)) B7 (.slice (some ⟨g, 0, none⟩) N cap) N V := ownsRow_putObj hOd _ hKd rfl
    obtain ⟨g', cap', e, _, _, hf, _⟩ := own_fam own' (by omega)
    cases e
    obtain ⟨_, _, _, e, _, _, hcp, _⟩ := own'.2.resolve_left (fun h => by omega)
    cases e
    refine ⟨_, results_tmp3 rfl _ _ _, g, cap, ?_, ?_, ?_, ?_⟩
    · rw [show m + 1 - n = N by omega]; rfl
    · rw [show m + 1 - n = N by omega, ← HV.out]; exact hf
    · exact (below_drewN (B07.out.trans (HB.out.mono (by omega))) nq).trans (belowK_b (w := w10) (by omega) _ _ _ _ hD hKd rfl rfl)
    · omega
  case body =>
    rintro lp pre x W ⟨⟨⟨v, bx, own, _⟩, k1, k2, k3⟩, bW⟩ hlen
    obtain ⟨s, hs⟩ := x
    dsimp only
    obtain ⟨r, hr⟩ : ∃ r, r = tl n m E s := ⟨_, rfl⟩
    rw [← hr]
    have hr1 : 1 ≤ r := by rw [hr]; unfold tl; omega
    have hr2 : r ≤ E := by rw [hr]; unfold tl; omega
    have hr3 : r + s + n ≤ m + 1 := by rw [hr]; unfold tl; omega
    obtain ⟨d, hd⟩ : ∃ d, d + s = m := ⟨m - s, by omega⟩
    obtain ⟨p, hp⟩ : ∃ p, p + 1 = n := ⟨n - 1, by omega⟩
    have hSz : 1 ≤ S := by omega
    have hWs : B7 ≤ W.heap.size := by rw [← hB7]; exact bW.size
    have HW : Hid (∀ v, Below W.heap.size W v → Below B7 w7 v) := fun v hv => bW.trans (hv.mono hWs)
    have hU : Hid (∀ v, Below W.heap.size W v → (v.cell? ⟨B6, 0, none⟩ = some (.slice (some ⟨G 0, 0, none⟩) S S) ∧ v.cell? ⟨B6, 1, none⟩ = some (.slice (some ⟨G 1, 0, none⟩) S S) ∧ v.cell? ⟨B6, 2, none⟩ = some (.slice (some ⟨G 2, 0, none⟩) S S) ∧ v.cell? ⟨w.heap.size, 0, none⟩ = some (.slice (some ⟨tb, tof, none⟩) m cb) ∧ v.cell? ⟨B1, 0, none⟩ = some (.int .i64 (S : Int)))) := fun v hv => by
      have h := HW.out v hv
      exact ⟨(h.cell (p := ⟨B6, 0, none⟩) (by show B6 < _; omega)).trans (KP7.out 0 (by omega)), (h.cell (p := ⟨B6, 1, none⟩) (by show B6 < _; omega)).trans (KP7.out 1 (by omega)), (h.cell (p := ⟨B6, 2, none⟩) (by show B6 < _; omega)).trans (KP7.out 2 (by omega)), (h.cell (p := ⟨w.heap.size, 0, none⟩) (by show w.heap.size < _; omega)).trans ct7, (h.cell (p := ⟨B1, 0, none⟩) (by show B1 < _; omega)).trans cs7⟩
    obtain ⟨U, hUd⟩ : ∃ U : Nat → Int, U = pd d (fun t => T (s + t)) := ⟨_, rfl⟩
    have hU0 : ∀ t, 0 ≤ U t := fun t => by rw [hUd]; exact pd_nonneg (fun t => hT0 _) t
    obtain ⟨DU, hDU⟩ : ∃ DU : Nat → Nat → Int, DU = fun (k : Nat) => dft k (rt k l) S U := ⟨_, rfl⟩
    obtain ⟨Z, hZ⟩ : ∃ Z : Nat → Nat → Int, Z = fun (k : Nat) => cyc k S (pd n (fun j => P (n - 1 - j))) U := ⟨_, rfl⟩
    have hlt7 : 0 < B7 := by rw [← hB7]; exact tab_lt T7
    have c8 : Hid (∀ (v : World) (c : Nat), Below W.heap.size W v → Calls Tryd.prog 29 #[.slice (some ⟨tb, tof + s, none⟩) d c, .int .i64 (S : Int)] v fun e w' => e = .returned (.slice (some ⟨v.heap.size, 0, none⟩) S S) ∧ Fam w' v.heap.size 0 S U ∧ Below v.heap.size v w') := fun v c hv => by
      have h1 : Fam w7 tb tof m T := Ft.out.below B07.out htl
      have h2 := (h1.below (HW.out v hv) (by omega)).part s d (by omega)
      exact (bwidened_row tb (tof + s) d c S hle _ v h2).mono fun e w' ⟨q1, q2, _, q3, _⟩ => ⟨q1, by rw [hUd]; exact q2, q3⟩
    have c9 : Hid (∀ (v : World) (g : Nat), Below W.heap.size W v → Fam v g 0 S U → Calls Tryd.prog 31 #[.slice (some ⟨g, 0, none⟩) S S] v fun e w' => ∃ H : Nat → Nat, e = .returned (.agg #[.slice (some ⟨H 0, 0, none⟩) S S, .slice (some ⟨H 1, 0, none⟩) S S, .slice (some ⟨H 2, 0, none⟩) S S]) ∧ Trio w' H S DU ∧ Below v.heap.size v w') := fun v g hv hf => by
      rw [hDU]
      exact bforward_any l S HS2.out hl g 0 S U hU0 v (T7.below (HW.out v hv) hlt7) hf
    have c10 : Hid (∀ (v : World) (H : Nat → Nat), Below W.heap.size W v → Trio v H S DU → Calls Tryd.prog 33 #[.agg #[.slice (some ⟨G 0, 0, none⟩) S S, .slice (some ⟨G 1, 0, none⟩) S S, .slice (some ⟨G 2, 0, none⟩) S S], .agg #[.slice (some ⟨H 0, 0, none⟩) S S, .slice (some ⟨H 1, 0, none⟩) S S, .slice (some ⟨H 2, 0, none⟩) S S]] v fun e w' => ∃ R : Nat → Nat, e = .returned (.agg #[.slice (some ⟨R 0, 0, none⟩) S S, .slice (some ⟨R 1, 0, none⟩) S S, .slice (some ⟨R 2, 0, none⟩) S S]) ∧ Trio w' R S Z ∧ Below v.heap.size v w') := fun v H hv ht => by
      rw [hZ]
      rw [hDU] at ht
      exact bcyclic_any l S HS2.out hl _ U G H v (T7.below (HW.out v hv) hlt7) (TR7.out.below (HW.out v hv) (by omega)) ht
    have c11 : Hid (∀ (v : World) (R : Nat → Nat), Below W.heap.size W v → Trio v R S Z → Calls Tryd.prog 34 #[.agg #[.slice (some ⟨R 0, 0, none⟩) S S, .slice (some ⟨R 1, 0, none⟩) S S, .slice (some ⟨R 2, 0, none⟩) S S], .int .i64 (p : Int), .int .i64 (r : Int)] v fun e w' => ∃ g, e = .returned (.slice (some ⟨g, 0, none⟩) r r) ∧ Fam w' g 0 r (fun t => V (s + t)) ∧ Below v.heap.size v w') := fun v R hv ht =>
      bjoined_any S p r hle hr1 (by omega) R Z (fun t => V (s + t)) (fun t _ => by rw [HV.out]; exact cr_nonneg hP0 hT0 _) (fun t ht => by rw [HV.out]; exact cr_fits hT0 Hok.out (s + t) (by omega)) (fun k t => by rw [hZ]; exact md_nonneg _ _)
        (fun k t _ ht => by
          rw [hZ, HV.out]
          show cyc k S (pd n fun j => P (n - 1 - j)) U (p + t) = md k (cr n P T (s + t))
          rw [show p + t = n - 1 + t by omega, cyc_cr k n S h1 P U t (by omega), hUd, show d = m - s by omega, cr_pd n m s P T t (by omega)]) v (T7.below (HW.out v hv) hlt7) ht
    have hpI : (n : Int) - 1 = (p : Int) := by omega
    have hsm : (s : Int) ≤ (m : Int) := by omega
    have hdm : m - s = d := by omega
    have hcs : ¬ cb = s := by omega
    have HR : Hid (r = tl n m E s) := hr
    clear hr hUd hDU hZ hU0
    gi_wp2_with fail
    gi_cut [17] from 53 (fun v17 wc => ∃ (β : Nat) (R : Nat → Nat), v17 = .pointer (some ⟨β, 0, none⟩) ∧ W.heap.size ≤ β ∧ (∀ k, k < 3 → wc.cell? ⟨β, k, none⟩ = some (.slice (some ⟨R k, 0, none⟩) S S)) ∧ Trio wc R S Z ∧ Below W.heap.size W wc)
    case first =>
      rename_i J K' hJ hK'
      have bd : Below W.heap.size W W.drew := (Below.refl _ _).drew
      have hH := hU.out W.drew bd
      refine region_round (S := fun v => v.cell? ⟨B6, 0, none⟩ = some (.slice (some ⟨G 0, 0, none⟩) S S) ∧ v.cell? ⟨B6, 1, none⟩ = some (.slice (some ⟨G 1, 0, none⟩) S S) ∧ v.cell? ⟨B6, 2, none⟩ = some (.slice (some ⟨G 2, 0, none⟩) S S) ∧ v.cell? ⟨w.heap.size, 0, none⟩ = some (.slice (some ⟨tb, tof, none⟩) m cb) ∧ v.cell? ⟨B1, 0, none⟩ = some (.int .i64 (S : Int))) (by kernel_rfl) (by kernel_rfl) (fun ⟨_, _, h⟩ => h) ?_
      refine takeH (i := 0) (v := .agg #[.slice (some ⟨G 0, 0, none⟩) S S, .slice (some ⟨G 1, 0, none⟩) S S, .slice (some ⟨G 2, 0, none⟩) S S]) rfl (by kernel_rfl) (by kernel_rfl) (by kernel_rfl) (fun _ _ _ h => h) rfl ?_ hH ?_
      · rintro v0 ⟨a0, a1, a2, a3, a4⟩
        go_simp
      try simp only [Act.put, List.setIfInBounds_toArray, List.set_cons_zero, List.set_cons_succ]
      refine takeH (i := 1) (v := .slice (some ⟨tb, tof, none⟩) m cb) rfl (by kernel_rfl) (by kernel_rfl) (by kernel_rfl) (fun _ _ _ h => h) rfl ?_ hH ?_
      · rintro v0 ⟨a0, a1, a2, a3, a4⟩
        go_simp
      try simp only [Act.put, List.setIfInBounds_toArray, List.set_cons_zero, List.set_cons_succ]
      refine takeH (i := 2) (v := .int .i64 (s : Int)) rfl (by kernel_rfl) (by kernel_rfl) (by kernel_rfl) (fun _ _ _ h => h) rfl ?_ hH ?_
      · rintro v0 ⟨a0, a1, a2, a3, a4⟩
        go_simp
      try simp only [Act.put, List.setIfInBounds_toArray, List.set_cons_zero, List.set_cons_succ]
      refine takeH (i := 3) (v := .slice (some ⟨tb, tof + s, none⟩) d (cb - s)) rfl (by kernel_rfl) (by kernel_rfl) (by kernel_rfl) (fun _ _ _ h => h) rfl ?_ hH ?_
      · rintro v0 ⟨a0, a1, a2, a3, a4⟩
        go_simp
      try simp only [Act.put, List.setIfInBounds_toArray, List.set_cons_zero, List.set_cons_succ]
      refine takeH (i := 4) (v := .int .i64 (S : Int)) rfl (by kernel_rfl) (by kernel_rfl) (by kernel_rfl) (fun _ _ _ h => h) rfl ?_ hH ?_
      · rintro v0 ⟨a0, a1, a2, a3, a4⟩
        go_simp
      try simp only [Act.put, List.setIfInBounds_toArray, List.set_cons_zero, List.set_cons_succ]
      obtain ⟨W0, hW0⟩ : ∃ W0, W0 = W.drew := ⟨_, rfl⟩
      rw [← hW0]
      have bW0 : Below W.heap.size W W0 := by rw [hW0]; exact bd
      clear hW0
      refine stepH2 (i := 5) (j := 8) rfl rfl (by kernel_rfl) rfl rfl (fun K hK => ?_) (fun K hK => ?_)
      · go_simp
        refine Calls.mono (c8.out W0 _ bW0) ?_; rintro e W0a ⟨rfl, fwW0a, qW0a⟩
        have bW0a : Below W.heap.size W W0a := bW0.trans (qW0a.mono bW0.size)
        refine hK.out _ _ (hU.out W0a bW0a) ?_
        clear hK K
        try simp only [Act.put, List.setIfInBounds_toArray, List.set_cons_zero, List.set_cons_succ]
        refine stepH2 (i := 6) (j := 8) rfl rfl (by kernel_rfl) rfl rfl (fun K hK => ?_) (fun K hK => ?_)
        · go_simp
          refine Calls.mono (c9.out W0a W0.heap.size bW0a fwW0a) ?_; rintro e W0ab ⟨H, rfl, tHW0ab, qW0ab⟩
          have bW0ab : Below W.heap.size W W0ab := bW0a.trans (qW0ab.mono bW0a.size)
          have fwW0ab := Fam.below fwW0a qW0ab (Fam.lt fwW0a (by omega))
          refine hK.out _ _ (hU.out W0ab bW0ab) ?_
          clear hK K
          try simp only [Act.put, List.setIfInBounds_toArray, List.set_cons_zero, List.set_cons_succ]
          refine stepH2 (i := 7) (j := 8) rfl rfl (by kernel_rfl) rfl rfl (fun K hK => ?_) (fun K hK => ?_)
          · go_simp
            refine Calls.mono (c10.out W0ab H bW0ab tHW0ab) ?_; rintro e W0abc ⟨R, rfl, tRW0abc, qW0abc⟩
            have bW0abc : Below W.heap.size W W0abc := bW0ab.trans (qW0abc.mono bW0ab.size)
            have tHW0abc := Trio.below tHW0ab qW0abc (Nat.le_refl _)
            refine hK.out _ _ (hU.out W0abc bW0abc) ?_
            clear hK K
            try simp only [Act.put, List.setIfInBounds_toArray, List.set_cons_zero, List.set_cons_succ]
            refine stepH (i := 8) rfl (by kernel_rfl) rfl (fun K hK => ?_)
            obtain ⟨W0abcd, eW0abcd, bareW0abcd, qW0abcd⟩ := bare_new W0abc 45
            go_simp
            rw [← eW0abcd]
            clear eW0abcd
            have bW0abcd : Below W.heap.size W W0abcd := bW0abc.trans (qW0abcd.mono bW0abc.size)
            have tRW0abcd := Trio.below tRW0abc qW0abcd (Nat.le_refl _)
            refine hK.out _ _ (hU.out W0abcd bW0abcd) ?_
            clear hK K
            try simp only [Act.put, List.setIfInBounds_toArray, List.set_cons_zero, List.set_cons_succ]
            refine stepH (i := 9) rfl (by kernel_rfl) rfl (fun K hK => ?_)
            obtain ⟨wf, ef, cf, tf, bf⟩ := bare_set bareW0abcd hSz tRW0abcd bW0abcd bW0abc.size
            have y0 := bareW0abcd.cell 0 (by omega)
            have y1 := bareW0abcd.cell 1 (by omega)
            have y2 := bareW0abcd.cell 2 (by omega)
            obtain ⟨z0, z1, z2⟩ := bareW0abcd.wrt.c3
            go_simp
            rw [← ef]
            refine hK.out _ _ (hU.out wf bf) ?_
            clear hK K
            try simp only [Act.put, List.setIfInBounds_toArray, List.set_cons_zero, List.set_cons_succ]
            refine wpAnyH_done (by kernel_rfl) ?_ _
            refine hK' _ _ (Met.intro (hJ _ _ ?_))
            repeat apply Exists.intro
            exact ⟨⟨_, R, rfl, bW0abc.size, cf, tf, bf⟩, rfl⟩
          · obtain ⟨W0abd, eW0abd, bareW0abd, qW0abd⟩ := bare_new W0ab 45
            go_simp
            rw [← eW0abd]
            clear eW0abd
            have bW0abd : Below W.heap.size W W0abd := bW0ab.trans (qW0abd.mono bW0ab.size)
            have tHW0abd := Trio.below tHW0ab qW0abd (Nat.le_refl _)
            refine hK.out _ _ (hU.out W0abd bW0abd) ?_
            clear hK K
            try simp only [Act.put, List.setIfInBounds_toArray, List.set_cons_zero, List.set_cons_succ]
            refine stepH (i := 7) rfl (by kernel_rfl) rfl (fun K hK => ?_)
            go_simp
            refine Calls.mono (c10.out W0abd H bW0abd tHW0abd) ?_; rintro e W0abdc ⟨R, rfl, tRW0abdc, qW0abdc⟩
            have bW0abdc : Below W.heap.size W W0abdc := bW0abd.trans (qW0abdc.mono bW0abd.size)
            have tHW0abdc := Trio.below tHW0abd qW0abdc (Nat.le_refl _)
            have bareW0abdc := Bare.below bareW0abd qW0abdc
            refine hK.out _ _ (hU.out W0abdc bW0abdc) ?_
            clear hK K
            try simp only [Act.put, List.setIfInBounds_toArray, List.set_cons_zero, List.set_cons_succ]
            refine stepH (i := 9) rfl (by kernel_rfl) rfl (fun K hK => ?_)
            obtain ⟨wf, ef, cf, tf, bf⟩ := bare_set bareW0abdc hSz tRW0abdc bW0abdc bW0ab.size
            have y0 := bareW0abdc.cell 0 (by omega)
            have y1 := bareW0abdc.cell 1 (by omega)
            have y2 := bareW0abdc.cell 2 (by omega)
            obtain ⟨z0, z1, z2⟩ := bareW0abdc.wrt.c3
            go_simp
            rw [← ef]
            refine hK.out _ _ (hU.out wf bf) ?_
            clear hK K
            try simp only [Act.put, List.setIfInBounds_toArray, List.set_cons_zero, List.set_cons_succ]
            refine wpAnyH_done (by kernel_rfl) ?_ _
            refine hK' _ _ (Met.intro (hJ _ _ ?_))
            repeat apply Exists.intro
            exact ⟨⟨_, R, rfl, bW0ab.size, cf, tf, bf⟩, rfl⟩
        · obtain ⟨W0ad, eW0ad, bareW0ad, qW0ad⟩ := bare_new W0a 45
          go_simp
          rw [← eW0ad]
          clear eW0ad
          have bW0ad : Below W.heap.size W W0ad := bW0a.trans (qW0ad.mono bW0a.size)
          have fwW0ad := Fam.below fwW0a qW0ad (Fam.lt fwW0a (by omega))
          refine hK.out _ _ (hU.out W0ad bW0ad) ?_
          clear hK K
          try simp only [Act.put, List.setIfInBounds_toArray, List.set_cons_zero, List.set_cons_succ]
          refine stepH (i := 6) rfl (by kernel_rfl) rfl (fun K hK => ?_)
          go_simp
          refine Calls.mono (c9.out W0ad W0.heap.size bW0ad fwW0ad) ?_; rintro e W0adb ⟨H, rfl, tHW0adb, qW0adb⟩
          have bW0adb : Below W.heap.size W W0adb := bW0ad.trans (qW0adb.mono bW0ad.size)
          have fwW0adb := Fam.below fwW0ad qW0adb (Fam.lt fwW0ad (by omega))
          have bareW0adb := Bare.below bareW0ad qW0adb
          refine hK.out _ _ (hU.out W0adb bW0adb) ?_
          clear hK K
          try simp only [Act.put, List.setIfInBounds_toArray, List.set_cons_zero, List.set_cons_succ]
          refine stepH (i := 7) rfl (by kernel_rfl) rfl (fun K hK => ?_)
          go_simp
          refine Calls.mono (c10.out W0adb H bW0adb tHW0adb) ?_; rintro e W0adbc ⟨R, rfl, tRW0adbc, qW0adbc⟩
          have bW0adbc : Below W.heap.size W W0adbc := bW0adb.trans (qW0adbc.mono bW0adb.size)
          have tHW0adbc := Trio.below tHW0adb qW0adbc (Nat.le_refl _)
          have bareW0adbc := Bare.below bareW0adb qW0adbc
          refine hK.out _ _ (hU.out W0adbc bW0adbc) ?_
          clear hK K
          try simp only [Act.put, List.setIfInBounds_toArray, List.set_cons_zero, List.set_cons_succ]
          refine stepH (i := 9) rfl (by kernel_rfl) rfl (fun K hK => ?_)
          obtain ⟨wf, ef, cf, tf, bf⟩ := bare_set bareW0adbc hSz tRW0adbc bW0adbc bW0a.size
          have y0 := bareW0adbc.cell 0 (by omega)
          have y1 := bareW0adbc.cell 1 (by omega)
          have y2 := bareW0adbc.cell 2 (by omega)
          obtain ⟨z0, z1, z2⟩ := bareW0adbc.wrt.c3
          go_simp
          rw [← ef]
          refine hK.out _ _ (hU.out wf bf) ?_
          clear hK K
          try simp only [Act.put, List.setIfInBounds_toArray, List.set_cons_zero, List.set_cons_succ]
          refine wpAnyH_done (by kernel_rfl) ?_ _
          refine hK' _ _ (Met.intro (hJ _ _ ?_))
          repeat apply Exists.intro
          exact ⟨⟨_, R, rfl, bW0a.size, cf, tf, bf⟩, rfl⟩
      · obtain ⟨W0d, eW0d, bareW0d, qW0d⟩ := bare_new W0 45
        go_simp
        rw [← eW0d]
        clear eW0d
        have bW0d : Below W.heap.size W W0d := bW0.trans (qW0d.mono bW0.size)
        refine hK.out _ _ (hU.out W0d bW0d) ?_
        clear hK K
        try simp only [Act.put, List.setIfInBounds_toArray, List.set_cons_zero, List.set_cons_succ]
        refine stepH (i := 5) rfl (by kernel_rfl) rfl (fun K hK => ?_)
        go_simp
        refine Calls.mono (c8.out W0d _ bW0d) ?_; rintro e W0da ⟨rfl, fwW0da, qW0da⟩
        have bW0da : Below W.heap.size W W0da := bW0d.trans (qW0da.mono bW0d.size)
        have bareW0da := Bare.below bareW0d qW0da
        refine hK.out _ _ (hU.out W0da bW0da) ?_
        clear hK K
        try simp only [Act.put, List.setIfInBounds_toArray, List.set_cons_zero, List.set_cons_succ]
        refine stepH (i := 6) rfl (by kernel_rfl) rfl (fun K hK => ?_)
        go_simp
        refine Calls.mono (c9.out W0da W0d.heap.size bW0da fwW0da) ?_; rintro e W0dab ⟨H, rfl, tHW0dab, qW0dab⟩
        have bW0dab : Below W.heap.size W W0dab := bW0da.trans (qW0dab.mono bW0da.size)
        have fwW0dab := Fam.below fwW0da qW0dab (Fam.lt fwW0da (by omega))
        have bareW0dab := Bare.below bareW0da qW0dab
        refine hK.out _ _ (hU.out W0dab bW0dab) ?_
        clear hK K
        try simp only [Act.put, List.setIfInBounds_toArray, List.set_cons_zero, List.set_cons_succ]
        refine stepH (i := 7) rfl (by kernel_rfl) rfl (fun K hK => ?_)
        go_simp
        refine Calls.mono (c10.out W0dab H bW0dab tHW0dab) ?_; rintro e W0dabc ⟨R, rfl, tRW0dabc, qW0dabc⟩
        have bW0dabc : Below W.heap.size W W0dabc := bW0dab.trans (qW0dabc.mono bW0dab.size)
        have tHW0dabc := Trio.below tHW0dab qW0dabc (Nat.le_refl _)
        have bareW0dabc := Bare.below bareW0dab qW0dabc
        refine hK.out _ _ (hU.out W0dabc bW0dabc) ?_
        clear hK K
        try simp only [Act.put, List.setIfInBounds_toArray, List.set_cons_zero, List.set_cons_succ]
        refine stepH (i := 9) rfl (by kernel_rfl) rfl (fun K hK => ?_)
        obtain ⟨wf, ef, cf, tf, bf⟩ := bare_set bareW0dabc hSz tRW0dabc bW0dabc bW0.size
        have y0 := bareW0dabc.cell 0 (by omega)
        have y1 := bareW0dabc.cell 1 (by omega)
        have y2 := bareW0dabc.cell 2 (by omega)
        obtain ⟨z0, z1, z2⟩ := bareW0dabc.wrt.c3
        go_simp
        rw [← ef]
        refine hK.out _ _ (hU.out wf bf) ?_
        clear hK K
        try simp only [Act.put, List.setIfInBounds_toArray, List.set_cons_zero, List.set_cons_succ]
        refine wpAnyH_done (by kernel_rfl) ?_ _
        refine hK' _ _ (Met.intro (hJ _ _ ?_))
        repeat apply Exists.intro
        exact ⟨⟨_, R, rfl, bW0.size, cf, tf, bf⟩, rfl⟩
    case rest =>
      obtain ⟨β, R, rfl, hβ, hcβ, trc, bc⟩ := hcut
      have cm7c : wc.cell? ⟨B2, 0, none⟩ = some (.int .i64 (n : Int)) := ((HW.out wc bc).cell (p := ⟨B2, 0, none⟩) (by show B2 < _; omega)).trans cm7
      have hβl : β < wc.heap.size := World.block_lt_of_cell? wc _ (hcβ 0 (by omega))
      have hβ0 := hcβ 0 (by omega)
      have hβ1 := hcβ 1 (by omega)
      have hβ2 := hcβ 2 (by omega)
      obtain ⟨ao, cp, rfl⟩ : ∃ ao cp, v = .slice ao (flatC n m E V pre).length cp := by
        rcases own.2 with ⟨h, h0⟩ | ⟨g, cap, cur, h, _⟩
        · rw [h0]; exact ⟨none, 0, h⟩
        · exact ⟨_, _, h⟩
      have hflat : (flatC n m E V pre).length ≤ 4096000000 := by
        have := flat_len n m E V pre
        have h3 : pre.length * E ≤ 1000000 * 4096 := Nat.mul_le_mul (by omega) (by omega)
        omega
      have Hfs : Hid (flatC n m E V (pre ++ [⟨s, hs⟩]) = flatC n m E V pre ++ cellsOf (fun t => V (s + t)) r) := by show _ = _; rw [flat_snoc, HR.out]
      have c12 : Hid (∀ wd, Below W.heap.size W wd → β < wd.heap.size → ∀ g, Fam wd g 0 r (fun t => V (s + t)) → _) := fun wd hwd hbd g hf => append_row (b := β) (b' := B2) bx own hwd hWs (by omega) hf hr1 (by omega) hβ hbd (by omega)
      have bcd : Below W.heap.size W wc.drew := bc.drew
      have bx8 : wc.drew.cell? ⟨B8, 0, none⟩ = some (.slice ao (flatC n m E V pre).length cp) := (boxed_below bx bc).cell
      have bxl : B8 < W.heap.size := bx.lt
      have KK : Hid (And (Boxed W B9' 3 (.int .i64 (n : Int))) (And (Boxed W (B9' + 1) 3 (.int .i64 (m : Int))) (Boxed W (B9' + 1 + 1) 3 (.int .i64 (S : Int))))) := ⟨k1, k2, k3⟩
      have bW' : Hid (Below B7 w7 W) := bW
      generalize hfl : (flatC n m E V pre).length = fl at *
      have HFL : Hid ((flatC n m E V pre).length = fl) := hfl
      clear hcβ c8 c9 c10 hU bx own k1 k2 k3 bW hfl
      gi_wp2_with fail
      refine region_round (S := fun v => v.cell? ⟨β, 0, none⟩ = some (.slice (some ⟨R 0, 0, none⟩) S S) ∧ v.cell? ⟨β, 1, none⟩ = some (.slice (some ⟨R 1, 0, none⟩) S S) ∧ v.cell? ⟨β, 2, none⟩ = some (.slice (some ⟨R 2, 0, none⟩) S S) ∧ v.cell? ⟨B2, 0, none⟩ = some (.int .i64 (n : Int))) (by kernel_rfl) (by kernel_rfl) (fun ⟨_, _, h⟩ => h) ?_
      have hH : wc.drew.cell? ⟨β, 0, none⟩ = some (.slice (some ⟨R 0, 0, none⟩) S S) ∧ wc.drew.cell? ⟨β, 1, none⟩ = some (.slice (some ⟨R 1, 0, none⟩) S S) ∧ wc.drew.cell? ⟨β, 2, none⟩ = some (.slice (some ⟨R 2, 0, none⟩) S S) ∧ wc.drew.cell? ⟨B2, 0, none⟩ = some (.int .i64 (n : Int)) := ⟨hβ0, hβ1, hβ2, cm7c⟩
      refine takeH (i := 1) (v := .agg #[.slice (some ⟨R 0, 0, none⟩) S S, .slice (some ⟨R 1, 0, none⟩) S S, .slice (some ⟨R 2, 0, none⟩) S S]) rfl (by kernel_rfl) (by kernel_rfl) (by kernel_rfl) (fun _ _ _ h => h) rfl ?_ hH ?_
      · rintro v0 ⟨a0, a1, a2, a3⟩
        go_simp
      try simp only [Act.put, List.setIfInBounds_toArray, List.set_cons_zero, List.set_cons_succ]
      refine takeH (i := 2) (v := .int .i64 (n : Int)) rfl (by kernel_rfl) (by kernel_rfl) (by kernel_rfl) (fun _ _ _ h => h) rfl ?_ hH ?_
      · rintro v0 ⟨a0, a1, a2, a3⟩
        go_simp
      try simp only [Act.put, List.setIfInBounds_toArray, List.set_cons_zero, List.set_cons_succ]
      refine takeH (i := 3) (v := .int .i64 (p : Int)) rfl (by kernel_rfl) (by kernel_rfl) (by kernel_rfl) (fun _ _ _ h => h) rfl ?_ hH ?_
      · rintro v0 ⟨a0, a1, a2, a3⟩
        go_simp
        rw [IntKind.wrap_i64]; omega
      try simp only [Act.put, List.setIfInBounds_toArray, List.set_cons_zero, List.set_cons_succ]
      refine takeH (i := 4) (v := .int .i64 (r : Int)) rfl (by kernel_rfl) (by kernel_rfl) (by kernel_rfl) (fun _ _ _ h => h) rfl ?_ hH ?_
      · rintro v0 ⟨a0, a1, a2, a3⟩
        go_simp
      try simp only [Act.put, List.setIfInBounds_toArray, List.set_cons_zero, List.set_cons_succ]
      obtain ⟨W0, hW0⟩ : ∃ W0, W0 = wc.drew := ⟨_, rfl⟩
      rw [← hW0] at hH bx8 bcd ⊢
      have hβd : β < W0.heap.size := by rw [hW0]; exact hβl
      have trd : Trio W0 R S Z := by rw [hW0]; exact trc
      clear hW0
      refine stepH2 (i := 0) (j := 5) rfl rfl (by kernel_rfl) rfl rfl (fun K hK => ?_) (fun K hK => ?_)
      · go_simp
        refine hK.out _ _ hH ?_
        clear hK K
        try simp only [Act.put, List.setIfInBounds_toArray, List.set_cons_zero, List.set_cons_succ]
        refine stepH (i := 5) rfl (by kernel_rfl) rfl (fun K hK => ?_)
        go_simp
        refine Calls.mono (c11.out W0 R bcd trd) ?_; rintro e wd ⟨g, rfl, fd, qd⟩
        have hHd : wd.cell? ⟨β, 0, none⟩ = some (.slice (some ⟨R 0, 0, none⟩) S S) ∧ wd.cell? ⟨β, 1, none⟩ = some (.slice (some ⟨R 1, 0, none⟩) S S) ∧ wd.cell? ⟨β, 2, none⟩ = some (.slice (some ⟨R 2, 0, none⟩) S S) ∧ wd.cell? ⟨B2, 0, none⟩ = some (.int .i64 (n : Int)) := ⟨(qd.cell (p := ⟨β, 0, none⟩) hβd).trans hH.1, (qd.cell (p := ⟨β, 1, none⟩) hβd).trans hH.2.1, (qd.cell (p := ⟨β, 2, none⟩) hβd).trans hH.2.2.1, (qd.cell (p := ⟨B2, 0, none⟩) (by show B2 < _; omega)).trans hH.2.2.2⟩
        have bwd : Below W.heap.size W wd := bcd.trans (qd.mono (by omega))
        refine hK.out _ _ hHd ?_
        clear hK K
        try simp only [Act.put, List.setIfInBounds_toArray, List.set_cons_zero, List.set_cons_succ]
        obtain ⟨g', cap, we, hrun, e8, f8, eb, eb', hfin⟩ := c12.out wd bwd (Nat.lt_of_lt_of_le hβd qd.size) g fd
        refine stepH (i := 6) rfl (by kernel_rfl) rfl (fun K hK => ?_)
        refine wp_append_eq (.tmp 61) (.tmp 66) 22 rfl _ _ _ _ rfl rfl hrun ?_
        refine hK.out _ _ ⟨(eb 0).trans hHd.1, (eb 1).trans hHd.2.1, (eb 2).trans hHd.2.2.1, (eb' 0).trans hHd.2.2.2⟩ ?_
        clear hK K
        try simp only [Act.put, List.setIfInBounds_toArray, List.set_cons_zero, List.set_cons_succ]
        refine stepH (i := 7) rfl (by kernel_rfl) rfl (fun K hK => ?_)
        go_simp
        obtain ⟨x1, x2, x3, x4, x5, x6, x7⟩ := hfin _ rfl
        refine hK.out _ _ ⟨(x6 0).trans hHd.1, (x6 1).trans hHd.2.1, (x6 2).trans hHd.2.2.1, (x7 0).trans hHd.2.2.2⟩ ?_
        clear hK K
        refine wpAnyH_done (by kernel_rfl) ?_ _
        have y1 := x5 _ _ (by omega) KK.out.1
        have y2 := x5 _ _ (by omega) KK.out.2.1
        have y3 := x5 _ _ (by omega) KK.out.2.2
        refine ⟨x3, ⟨y1.cell.trans KK.out.1.cell.symm, y2.cell.trans KK.out.2.1.cell.symm, y3.cell.trans KK.out.2.2.cell.symm⟩, ⟨⟨⟨_, x1, ?_, trivial⟩, y1, y2, y3⟩, bW'.out.trans x4⟩⟩
        rw [Hfs.out]
        rw [List.length_append, HFL.out, show (cellsOf (fun t => V (s + t)) r).length = r by simp [cellsOf]]
        exact x2
      · go_simp
        refine Calls.mono (c11.out W0 R bcd trd) ?_; rintro e wd ⟨g, rfl, fd, qd⟩
        have hHd : wd.cell? ⟨β, 0, none⟩ = some (.slice (some ⟨R 0, 0, none⟩) S S) ∧ wd.cell? ⟨β, 1, none⟩ = some (.slice (some ⟨R 1, 0, none⟩) S S) ∧ wd.cell? ⟨β, 2, none⟩ = some (.slice (some ⟨R 2, 0, none⟩) S S) ∧ wd.cell? ⟨B2, 0, none⟩ = some (.int .i64 (n : Int)) := ⟨(qd.cell (p := ⟨β, 0, none⟩) hβd).trans hH.1, (qd.cell (p := ⟨β, 1, none⟩) hβd).trans hH.2.1, (qd.cell (p := ⟨β, 2, none⟩) hβd).trans hH.2.2.1, (qd.cell (p := ⟨B2, 0, none⟩) (by show B2 < _; omega)).trans hH.2.2.2⟩
        have bwd : Below W.heap.size W wd := bcd.trans (qd.mono (by omega))
        have bx9 : wd.cell? ⟨B8, 0, none⟩ = some (.slice ao fl cp) := (qd.cell (p := ⟨B8, 0, none⟩) (by show B8 < _; omega)).trans bx8
        refine hK.out _ _ hHd ?_
        clear hK K
        try simp only [Act.put, List.setIfInBounds_toArray, List.set_cons_zero, List.set_cons_succ]
        refine stepH (i := 0) rfl (by kernel_rfl) rfl (fun K hK => ?_)
        go_simp
        refine hK.out _ _ hHd ?_
        clear hK K
        try simp only [Act.put, List.setIfInBounds_toArray, List.set_cons_zero, List.set_cons_succ]
        obtain ⟨g', cap, we, hrun, e8, f8, eb, eb', hfin⟩ := c12.out wd bwd (Nat.lt_of_lt_of_le hβd qd.size) g fd
        refine stepH (i := 6) rfl (by kernel_rfl) rfl (fun K hK => ?_)
        refine wp_append_eq (.tmp 61) (.tmp 66) 22 rfl _ _ _ _ rfl rfl hrun ?_
        refine hK.out _ _ ⟨(eb 0).trans hHd.1, (eb 1).trans hHd.2.1, (eb 2).trans hHd.2.2.1, (eb' 0).trans hHd.2.2.2⟩ ?_
        clear hK K
        try simp only [Act.put, List.setIfInBounds_toArray, List.set_cons_zero, List.set_cons_succ]
        refine stepH (i := 7) rfl (by kernel_rfl) rfl (fun K hK => ?_)
        go_simp
        obtain ⟨x1, x2, x3, x4, x5, x6, x7⟩ := hfin _ rfl
        refine hK.out _ _ ⟨(x6 0).trans hHd.1, (x6 1).trans hHd.2.1, (x6 2).trans hHd.2.2.1, (x7 0).trans hHd.2.2.2⟩ ?_
        clear hK K
        refine wpAnyH_done (by kernel_rfl) ?_ _
        have y1 := x5 _ _ (by omega) KK.out.1
        have y2 := x5 _ _ (by omega) KK.out.2.1
        have y3 := x5 _ _ (by omega) KK.out.2.2
        refine ⟨x3, ⟨y1.cell.trans KK.out.1.cell.symm, y2.cell.trans KK.out.2.1.cell.symm, y3.cell.trans KK.out.2.2.cell.symm⟩, ⟨⟨⟨_, x1, ?_, trivial⟩, y1, y2, y3⟩, bW'.out.trans x4⟩⟩
        rw [Hfs.out]
        rw [List.length_append, HFL.out, show (cellsOf (fun t => V (s + t)) r).length = r by simp [cellsOf]]
        exact x2
end Go.Proofs.YtdffofpoilfhiaaDoor
