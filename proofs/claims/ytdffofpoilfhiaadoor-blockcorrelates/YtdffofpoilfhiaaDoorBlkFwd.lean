/- Three rows in an array: contracts of block.forward, block.cyclic and block.joined. -/
import Derived.Test.YtdffofpoilfhiaaDoorBlkRow
import Derived.Test.YtdffofpoilfhiaaDoorNttA
import Derived.Deep.RegionHeld3
namespace Go.Proofs.YtdffofpoilfhiaaDoor
open Go.RowKit Res

/-- Three rows of S numbers: where they lie, and what they hold. -/
def Trio (w : World) (G : Nat → Nat) (S : Nat) (F : Nat → Nat → Int) : Prop := ∀ k, k < 3 → Fam w (G k) 0 S (F k) ∧ G k < w.heap.size
theorem Trio.below {B : Nat} {w w' : World} {G : Nat → Nat} {S : Nat} {F : Nat → Nat → Int} (h : Trio w G S F) (hb : Below B w w') (hB : w.heap.size ≤ B) : Trio w' G S F :=
  fun k hk => ⟨(h k hk).1.below hb (Nat.lt_of_lt_of_le (h k hk).2 hB), Nat.lt_of_lt_of_le (h k hk).2 hb.size⟩
/-- Three slices in a box. -/
structure BoxR (w v : World) (G : Nat → Nat) (S : Nat) (ty : TypeId) : Prop where
  eq : v = w.alloc (.cells #[.slice (some ⟨G 0, 0, none⟩) S S, .slice (some ⟨G 1, 0, none⟩) S S, .slice (some ⟨G 2, 0, none⟩) S S] ty)
  cell : ∀ k, k < 3 → v.cell? ⟨w.heap.size, k, none⟩ = some (.slice (some ⟨G k, 0, none⟩) S S)
  wrt : Wrt v w.heap.size 0 3
  bel : Below w.heap.size w v
  size : v.heap.size = w.heap.size + 1
theorem boxR (w : World) (G : Nat → Nat) (S : Nat) (ty : TypeId) : ∃ v, BoxR w v G S ty := by
  refine ⟨_, rfl, fun k hk => ?_, fun i _ => by simp, (Below.refl _ _).alloc (Nat.le_refl _) _, size_alloc _ _⟩
  have : k = 0 ∨ k = 1 ∨ k = 2 := by omega
  rcases this with rfl | rfl | rfl <;> simp
theorem results_boxR {fn : Func} {p : Tmp} (h : fn.results = #[.cell p 45]) (tmps : Array Value) (v : World) (b : Nat) (x y z : Value) (hp : tmps.getD p undef = .pointer (some ⟨b, 0, none⟩))
    (c0 : v.cell? ⟨b, 0, none⟩ = some x) (c1 : v.cell? ⟨b, 1, none⟩ = some y) (c2 : v.cell? ⟨b, 2, none⟩ = some z) :
    (results fn tmps).run Tryd.prog v = .ok (.agg #[x, y, z]) v := by
  have hp' : tmps[p]?.getD undef = .pointer (some ⟨b, 0, none⟩) := by simpa using hp
  simp [results, h, hp', asAddr, go_sem, c0, c1, c2]
/-- Three cells that are set. -/
theorem set3_cells {v : World} {b : Nat} {x0 y0 z0 : Value} (x y z : Value) (c0 : v.cell? ⟨b, 0, none⟩ = some x0) (c1 : v.cell? ⟨b, 1, none⟩ = some y0) (c2 : v.cell? ⟨b, 2, none⟩ = some z0) :
    (((v.setCell ⟨b, 0, none⟩ x).setCell ⟨b, 1, none⟩ y).setCell ⟨b, 2, none⟩ z).cell? ⟨b, 0, none⟩ = some x ∧ (((v.setCell ⟨b, 0, none⟩ x).setCell ⟨b, 1, none⟩ y).setCell ⟨b, 2, none⟩ z).cell? ⟨b, 1, none⟩ = some y ∧ (((v.setCell ⟨b, 0, none⟩ x).setCell ⟨b, 1, none⟩ y).setCell ⟨b, 2, none⟩ z).cell? ⟨b, 2, none⟩ = some z := by
  have d1 : ((v.setCell ⟨b, 0, none⟩ x)).cell? ⟨b, 1, none⟩ = some y0 := (cell_setCell_ne _ _ _ _ _ _ (Or.inr (by omega))).trans c1
  have d2 : (((v.setCell ⟨b, 0, none⟩ x)).setCell ⟨b, 1, none⟩ y).cell? ⟨b, 2, none⟩ = some z0 := (cell_setCell_ne _ _ _ _ _ _ (Or.inr (by omega))).trans ((cell_setCell_ne _ _ _ _ _ _ (Or.inr (by omega))).trans c2)
  refine ⟨?_, ?_, World.cell?_setCell_same _ _ _ d2⟩
  · rw [cell_setCell_ne _ _ _ _ _ _ (Or.inr (by omega)), cell_setCell_ne _ _ _ _ _ _ (Or.inr (by omega))]
    exact World.cell?_setCell_same _ _ _ c0
  · rw [cell_setCell_ne _ _ _ _ _ _ (Or.inr (by omega))]
    exact World.cell?_setCell_same _ _ _ d1
theorem Fam.three_set {w : World} {b g n : Nat} {F : Nat → Int} (h : Fam w g 0 n F) (hne : g ≠ b) (x y z : Value) : Fam (((w.setCell ⟨b, 0, none⟩ x).setCell ⟨b, 1, none⟩ y).setCell ⟨b, 2, none⟩ z) g 0 n F := ((h.setCell_ne hne x).setCell_ne hne y).setCell_ne hne z
theorem size_three (w : World) (b : Nat) (x y z : Value) : (((w.setCell ⟨b, 0, none⟩ x).setCell ⟨b, 1, none⟩ y).setCell ⟨b, 2, none⟩ z).heap.size = w.heap.size :=
  (((Wrote.refl (fun b' _ => b' = b) w).setCell rfl x).setCell rfl y |>.setCell rfl z).size
/-- What an array of three rows is, behind a loop that filled a box with them. -/
theorem trio_of {wc wr : World} {B R S : Nat} {F : Nat → Nat → Int} (h : Three wc wr R 3 S S F) (hBR : B < R) (hcB : ∀ k, k < 3 → wr.cell? ⟨B, k, none⟩ = some (.slice none 0 0)) :
    ∃ G : Nat → Nat, (∀ k, k < 3 → wr.cell? ⟨R, k, none⟩ = some (.slice (some ⟨G k, 0, none⟩) S S)) ∧ ∀ w1, w1 = (((wr.setCell ⟨B, 0, none⟩ (.slice (some ⟨G 0, 0, none⟩) S S)).setCell ⟨B, 1, none⟩ (.slice (some ⟨G 1, 0, none⟩) S S)).setCell ⟨B, 2, none⟩ (.slice (some ⟨G 2, 0, none⟩) S S)) →
      (w1.cell? ⟨B, 0, none⟩ = some (.slice (some ⟨G 0, 0, none⟩) S S) ∧ w1.cell? ⟨B, 1, none⟩ = some (.slice (some ⟨G 1, 0, none⟩) S S) ∧ w1.cell? ⟨B, 2, none⟩ = some (.slice (some ⟨G 2, 0, none⟩) S S)) ∧ Trio w1 G S F ∧ Below B wr w1 := by
  obtain ⟨g0, k0, f0, l0, m0⟩ := h.have_ 0 (by omega)
  obtain ⟨g1, k1, f1, l1, m1⟩ := h.have_ 1 (by omega)
  obtain ⟨g2, k2, f2, l2, m2⟩ := h.have_ 2 (by omega)
  obtain ⟨G, e0, e1, e2⟩ : ∃ G : Nat → Nat, g0 = G 0 ∧ g1 = G 1 ∧ g2 = G 2 := ⟨fun k => if k = 0 then g0 else if k = 1 then g1 else g2, rfl, rfl, rfl⟩
  subst e0 e1 e2
  refine ⟨G, fun k hk => ?_, fun w1 e => ?_⟩
  · have : k = 0 ∨ k = 1 ∨ k = 2 := by omega
    rcases this with rfl | rfl | rfl <;> assumption
  · subst e
    refine ⟨set3_cells _ _ _ (hcB 0 (by omega)) (hcB 1 (by omega)) (hcB 2 (by omega)), fun k hk => ?_, below_three (Below.refl _ _) (Nat.le_refl _) _ _ _⟩
    rw [size_three]
    have : k = 0 ∨ k = 1 ∨ k = 2 := by omega
    rcases this with rfl | rfl | rfl
    · exact ⟨f0.three_set (by omega) _ _ _, m0⟩
    · exact ⟨f1.three_set (by omega) _ _ _, m1⟩
    · exact ⟨f2.three_set (by omega) _ _ _, m2⟩
theorem bare_box (w : World) (ty : TypeId) : ∃ v, v = w.alloc (.cells #[.slice none 0 0, .slice none 0 0, .slice none 0 0] ty) ∧ (∀ k, k < 3 → v.cell? ⟨w.heap.size, k, none⟩ = some (.slice none 0 0)) ∧ Wrt v w.heap.size 0 3 ∧ Below w.heap.size w v ∧ w.heap.size < v.heap.size := by
  refine ⟨_, rfl, fun k hk => ?_, fun i _ => by simp, (Below.refl _ _).alloc (Nat.le_refl _) _, by rw [size_alloc]; omega⟩
  have : k = 0 ∨ k = 1 ∨ k = 2 := by omega
  rcases this with rfl | rfl | rfl <;> simp

set_option maxHeartbeats 2000000 in
theorem bforward_any (l S : Nat) (hS : S = 2 ^ l) (hl : l ≤ 12) (b o c : Nat) (L : Nat → Int) (hL : ∀ t, 0 ≤ L t) (w : World) (hT : Tab w) (hf : Fam w b o S L) :
    Calls Tryd.prog 31 #[.slice (some ⟨b, o, none⟩) S c] w fun e w' =>
      ∃ G : Nat → Nat, e = .returned (.agg #[.slice (some ⟨G 0, 0, none⟩) S S, .slice (some ⟨G 1, 0, none⟩) S S, .slice (some ⟨G 2, 0, none⟩) S S]) ∧ Trio w' G S (fun k => dft k (rt k l) S L) ∧ Below w.heap.size w w' := by
  have hpos : 1 ≤ S := by rw [hS]; exact Nat.one_le_two_pow
  have hbl : b < w.heap.size := hf.lt (by omega)
  obtain ⟨D, hD⟩ : ∃ D : Nat → Nat → Int, D = fun (k : Nat) => dft k (rt k l) S L := ⟨_, rfl⟩
  have c1 : Hid (∀ (k : Nat) (_ : k < 3) (v : World) (_ : Tab v) (_ : Fam v b o S L), Calls Tryd.prog 43 #[.int .i64 k, .slice (some ⟨b, o, none⟩) S c] v fun e w' => e = .returned (.tuple #[.slice (some ⟨v.heap.size, 0, none⟩) S S, .int .i64 0]) ∧ Fam w' v.heap.size 0 S (D k) ∧ Below v.heap.size v w' ∧ v.heap.size < w'.heap.size) := fun k hk v hv fv => (forward_yes k (pr_ne k hk) l S hS hl b o c L hL v hv fv).mono fun e w' ⟨h1, h2, _, h3, h4⟩ => ⟨h1, by rw [hD]; exact h2, h3, h4⟩
  rw [← hD]
  obtain ⟨w1, e1, k1, r1, b1, s1⟩ := bare_box w 45
  have T1 : Tab w1 := hT.below b1 (tab_lt hT)
  have F1 : Fam w1 b o S L := hf.below b1 hbl
  obtain ⟨w2, e2, h3, b2⟩ := three_new w1 S S D 45
  have E1 : Hid _ := e1
  have E2 : Hid _ := e2
  have H3 : Hid _ := h3
  have F2 : Hid (Fam w2 b o S L) := F1.below b2 (by omega)
  have T2 : Tab w2 := T1.below b2 (tab_lt T1)
  have K2 : Hid (∀ k, k < 3 → w2.cell? ⟨w.heap.size, k, none⟩ = some (.slice none 0 0)) := fun k hk => (b2.cell (p := ⟨w.heap.size, k, none⟩) s1).trans (k1 k hk)
  have R2 : Hid (Wrt w2 w.heap.size 0 3) := r1.below b2 s1
  have B2 : Hid (Below w.heap.size w w2) := b1.trans (b2.mono b1.size)
  have hlt1 := tab_lt T1
  have Hs : Hid (w.heap.size + 1 = w1.heap.size) := by show _ = _; rw [e1, size_alloc]
  clear hL hf hD hS hl F1 e1 e2 h3 b1 b2 k1 r1 T1 hT
  go_enter Tryd.func31, Tryd.ntmps31
  go_wp2_with fail
  rw [← E1.out, ← E2.out, Hs.out]
  generalize hR : w1.heap.size = R at *
  clear hR E1 E2 Hs
  go_loopw [5] (fun vi wr => ∃ k : Nat, k ≤ 3 ∧ vi = .int .i64 k ∧ Three w2 wr R k S S D) (fun vi _ => 3 - (intOf vi).toNat)
  case atStart => exact ⟨0, Nat.zero_le _, rfl, H3.out⟩
  case round =>
    obtain ⟨k, hk, rfl, hR⟩ := hrel
    have HR : Hid (Three w2 wr R k S S D) := hR
    have Tr : Tab wr := T2.below hR.bel hlt1
    by_cases hk3 : k < 3
    · have c1' : Hid _ := c1.out k hk3 wr Tr (F2.out.below hR.bel (by omega))
      have hlr := hR.lt
      have hcR := hR.bare k (Nat.le_refl _) hk3
      have hfR := hR.wrt.zero k hk3
      have hkI : (k : Int) < 3 := by omega
      clear hR
      go_wp2_with fail
      refine Calls.mono (Hid.out c1') ?_; rintro e w4 ⟨rfl, f4, b4, s4⟩
      have HS : Hid _ := HR.out.step hk3 b4 (Nat.le_refl _) s4 f4 (Nat.le_refl _) (fun _ _ => rfl)
      have hc4 : w4.cell? ⟨R, k, none⟩ = some (.slice none 0 0) := (b4.cell (p := ⟨R, k, none⟩) hlr).trans hcR
      have hf4 : w4.frozen? ⟨R, k, none⟩ = false := (b4.frozen (p := ⟨R, k, none⟩) hlr).trans hfR
      clear f4 b4 hcR hfR
      go_wp2_with fail
      go_roundw
      case rel => exact ⟨k + 1, by omega, by go_num, HS.out⟩
      case measure => simp [intOf]; omega
    · obtain rfl : k = 3 := by omega
      have hcB : ∀ k, k < 3 → wr.cell? ⟨w.heap.size, k, none⟩ = some (.slice none 0 0) := fun k hk => (hR.bel.cell (p := ⟨w.heap.size, k, none⟩) (by omega)).trans (K2.out k hk)
      obtain ⟨G, hG, hw1⟩ := trio_of hR (B := w.heap.size) (by omega) hcB
      have x0 := hG 0 (by omega)
      have x1 := hG 1 (by omega)
      have x2 := hG 2 (by omega)
      have y0 := hcB 0 (by omega)
      have y1 := hcB 1 (by omega)
      have y2 := hcB 2 (by omega)
      obtain ⟨z0, z1, z2⟩ := (R2.out.below hR.bel (by omega)).c3
      have HW : Hid _ := hw1
      have Br : Hid (Below w.heap.size w wr) := B2.out.trans (hR.bel.mono (by omega))
      clear hR hG hw1 hcB
      go_wp2_with fail
      obtain ⟨⟨q0, q1, q2⟩, tr, bl⟩ := HW.out _ rfl
      refine bodyPost_ret (results_boxR rfl _ _ w.heap.size _ _ _ rfl q0 q1 q2) rfl ?_
      exact ⟨G, rfl, tr, Br.out.trans bl⟩
end Go.Proofs.YtdffofpoilfhiaaDoor
