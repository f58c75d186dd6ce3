/- Contracts of leaf.Text, and of the document's Text. -/
import Derived.Test.YtcohcdebbkfdfaaDoorLfOwn
import Derived.Test.YtcohcdebbkfdfaaDoorLfProg
import Derived.Test.YtcohcdebbkfdfaaDoorClsA
import Derived.Laws.MakeOwn
namespace Go.Proofs.YtcohcdebbkfdfaaDoor
open Go.RowKit
namespace Cls

/-- The set of byte t of a text. -/
def tx (s : ByteArray) (t : Nat) : Nat → Bool := inS (s.extract t (t + 1)) (s.extract t (t + 1)).size

def txk (s : ByteArray) (k t : Nat) : Nat → Bool := if t < k then tx s t else fun _ => false

/-- n classes that 'make' lays. -/
theorem cl_made (w : World) (n : Nat) : Cl (w.alloc (.cells (madeCells #[.int .u64 0, .int .u64 0, .int .u64 0, .int .u64 0] (n * 4)) 35)) w.heap.size 0 n (fun _ _ => false) := by
  intro t ht k hk
  have hb : (w.alloc (.cells (madeCells #[.int .u64 0, .int .u64 0, .int .u64 0, .int .u64 0] (n * 4)) 35)).heap[w.heap.size]? = some (.cells (madeCells #[.int .u64 0, .int .u64 0, .int .u64 0, .int .u64 0] (n * 4)) 35) := by show (w.heap.push _)[w.heap.size]? = _; simp
  unfold World.cell?
  rw [hb, Nat.zero_add, wd_none]
  show (madeCells _ _)[t * 4 + k]? = _
  have hlt : t * 4 + k < n * 4 := by omega
  have hm : (t * 4 + k) % 4 = k := by omega
  unfold madeCells
  rw [Array.getElem?_map]
  simp [hlt, hm]
  match k, hk with
  | 0, _ => rfl
  | 1, _ => rfl
  | 2, _ => rfl
  | 3, _ => rfl

theorem wrt_made4 (w : World) (n : Nat) : Wrt (w.alloc (.cells (madeCells #[.int .u64 0, .int .u64 0, .int .u64 0, .int .u64 0] (n * 4)) 35)) w.heap.size 0 (n * 4) := by
  intro t _
  unfold World.frozen?
  rw [show (w.alloc (.cells (madeCells #[.int .u64 0, .int .u64 0, .int .u64 0, .int .u64 0] (n * 4)) 35)).heap[w.heap.size]? = some (.cells (madeCells #[.int .u64 0, .int .u64 0, .int .u64 0, .int .u64 0] (n * 4)) 35) by show (w.heap.push _)[w.heap.size]? = _; simp]
  simp

theorem make4 (n : Nat) (hn : n ≤ 4398046511104) (w : World) : (Instr.makeSlice 22 (.int .i64 (n : Int)) (.int .i64 (n : Int))).run Tryd.prog w = .ok (.slice (some ⟨w.heap.size, 0, none⟩) n n) (w.alloc (.cells (madeCells #[.int .u64 0, .int .u64 0, .int .u64 0, .int .u64 0] (n * 4)) 35)) := by
  obtain ⟨i0, hi, hz0, hz1, hz2⟩ := infoC
  have h := run_make (P := Tryd.prog) w 22 35 i0 _ Tryd.underlying22 hi hz0 .i64 .i64 n n (by omega) (Int.le_refl _) (by rw [hz2]; omega) (by omega)
  simp only [Int.toNat_natCast, hz1] at h
  exact h

/-- A leaf as a result: what stands in its variable. -/
theorem results_box2 {fn : Func} {p : Tmp} (h : fn.results = #[.cell p 24]) (tmps : Array Value) (v : World) (b : Nat) (x y : Value) (hp : tmps.getD p undef = .pointer (some ⟨b, 0, none⟩)) (c0 : v.cell? ⟨b, 0, none⟩ = some x) (c1 : v.cell? ⟨b, 1, none⟩ = some y) :
    (results fn tmps).run Tryd.prog v = .ok (.agg #[x, y]) v := by
  have hp' : tmps[p]?.getD undef = .pointer (some ⟨b, 0, none⟩) := by simpa using hp
  simp [results, h, hp', asAddr, go_sem, c0, c1]

/-- Class k of a row, written. -/
def put4 (v : World) (b k : Nat) (f : Nat → Bool) : World := (((v.setCell ⟨b, k * 4, none⟩ (.int .u64 (wd f 0 : Nat))).setCell ⟨b, k * 4 + 1, none⟩ (.int .u64 (wd f 1 : Nat))).setCell ⟨b, k * 4 + 2, none⟩ (.int .u64 (wd f 2 : Nat))).setCell ⟨b, k * 4 + 3, none⟩ (.int .u64 (wd f 3 : Nat))

theorem put4_wrote {v : World} {b k : Nat} (f : Nat → Bool) : Wrote (fun b' _ => b' = b) v (put4 v b k f) := ((((Wrote.refl (fun b' _ => b' = b) v).setCell rfl _).setCell rfl _).setCell rfl _).setCell rfl _

theorem put4_wrt {v : World} {b b' k n : Nat} (h : Wrt v b' 0 n) (f : Nat → Bool) : Wrt (put4 v b k f) b' 0 n := (((h.setCell _ _).setCell _ _).setCell _ _).setCell _ _

theorem put4_cl {v : World} {b k n : Nat} {P : Nat → Nat → Bool} (h : Cl v b 0 n P) (hk : k < n) (f : Nat → Bool) : Cl (put4 v b k f) b 0 n (fun t => if t = k then f else P t) := by
  intro t ht j hj
  show (put4 v b k f).cell? _ = some (.int .u64 ((wd (if t = k then f else P t) j : Nat) : Int))
  have hc := h t ht j hj
  unfold put4
  rw [Nat.zero_add] at hc ⊢
  by_cases e : t = k
  · subst e
    rw [if_pos rfl]
    have h0 := h t ht 0 (by omega)
    have h1 := h t ht 1 (by omega)
    have h2 := h t ht 2 (by omega)
    have h3 := h t ht 3 (by omega)
    rw [Nat.zero_add] at h0 h1 h2 h3
    generalize wd f = W at *
    match j, hj with
    | 0, _ => rw [cell_setCell_ne _ _ _ _ _ _ (Or.inr (by omega)), cell_setCell_ne _ _ _ _ _ _ (Or.inr (by omega)), cell_setCell_ne _ _ _ _ _ _ (Or.inr (by omega))]; exact World.cell?_setCell_same _ _ _ h0
    | 1, _ => rw [cell_setCell_ne _ _ _ _ _ _ (Or.inr (by omega)), cell_setCell_ne _ _ _ _ _ _ (Or.inr (by omega))]; exact World.cell?_setCell_same _ _ _ (by rw [cell_setCell_ne _ _ _ _ _ _ (Or.inr (by omega))]; exact h1)
    | 2, _ => rw [cell_setCell_ne _ _ _ _ _ _ (Or.inr (by omega))]; exact World.cell?_setCell_same _ _ _ (by rw [cell_setCell_ne _ _ _ _ _ _ (Or.inr (by omega)), cell_setCell_ne _ _ _ _ _ _ (Or.inr (by omega))]; exact h2)
    | 3, _ => exact World.cell?_setCell_same _ _ _ (by rw [cell_setCell_ne _ _ _ _ _ _ (Or.inr (by omega)), cell_setCell_ne _ _ _ _ _ _ (Or.inr (by omega)), cell_setCell_ne _ _ _ _ _ _ (Or.inr (by omega))]; exact h3)
  · rw [if_neg e, cell_setCell_ne _ _ _ _ _ _ (Or.inr (by omega)), cell_setCell_ne _ _ _ _ _ _ (Or.inr (by omega)), cell_setCell_ne _ _ _ _ _ _ (Or.inr (by omega)), cell_setCell_ne _ _ _ _ _ _ (Or.inr (by omega))]
    exact hc

theorem Cl.congr {w : World} {b o n : Nat} {P Q : Nat → Nat → Bool} (h : Cl w b o n P) (e : ∀ t, t < n → P t = Q t) : Cl w b o n Q := fun t ht k hk => by rw [← e t ht]; exact h t ht k hk

theorem txk_step (s : ByteArray) (k n : Nat) : ∀ t, t < n → (if t = k then tx s k else txk s k t) = txk s (k + 1) t := fun t _ => by
  unfold txk
  by_cases e : t = k
  · subst e; rw [if_pos rfl, if_pos (by omega)]
  · rw [if_neg e]
    by_cases e2 : t < k
    · rw [if_pos e2, if_pos (by omega)]
    · rw [if_neg e2, if_neg (by omega)]

/-- Two cells, written. -/
def put2 (v : World) (b : Nat) (x y : Value) : World := (v.setCell ⟨b, 0, none⟩ x).setCell ⟨b, 1, none⟩ y

theorem put2_cells {v : World} {b : Nat} {x y x0 y0 : Value} (c0 : v.cell? ⟨b, 0, none⟩ = some x0) (c1 : v.cell? ⟨b, 1, none⟩ = some y0) : (put2 v b x y).cell? ⟨b, 0, none⟩ = some x ∧ (put2 v b x y).cell? ⟨b, 1, none⟩ = some y := by
  unfold put2
  constructor
  · rw [cell_setCell_ne _ _ _ _ _ _ (Or.inr (by omega))]; exact World.cell?_setCell_same _ _ _ c0
  · exact World.cell?_setCell_same _ _ _ (by rw [cell_setCell_ne _ _ _ _ _ _ (Or.inr (by omega))]; exact c1)

theorem put2_wrote {v : World} {b : Nat} (x y : Value) : Wrote (fun b' _ => b' = b) v (put2 v b x y) := ((Wrote.refl (fun b' _ => b' = b) v).setCell rfl _).setCell rfl _

/-- The row of a text's classes: new, and its own. -/
structure Tn (w w' : World) (g : Nat) (s : ByteArray) : Prop where
  new : w.heap.size ≤ g
  lt : g < w'.heap.size
  cl : Cl w' g 0 s.size (tx s)
  wrt : Wrt w' g 0 (s.size * 4)

set_option maxHeartbeats 1000000 in
theorem text_core (s : ByteArray) (K : Int) (w : World) (hs : s.size ≤ 4398046511104) :
    Calls Tryd.prog 17 #[.string s, .int .i64 K] w fun e w' => (∃ g d, e = .returned (.agg #[.slice (some ⟨g, 0, none⟩) s.size d, .int .i64 K]) ∧ Tn w w' g s) ∧ Below w.heap.size w w' := by
  obtain ⟨w1, b1⟩ := lbox w (.slice none 0 0) (.int .i64 0)
  have hmk := make4 s.size hs
  have fv := cl_made w1 s.size
  have wv := wrt_made4 w1 s.size
  have bel : Below w1.heap.size w1 (w1.alloc (.cells (madeCells #[.int .u64 0, .int .u64 0, .int .u64 0, .int .u64 0] (s.size * 4)) 35)) := (Below.refl _ _).alloc (Nat.le_refl _) _
  have hsz : (w1.alloc (.cells (madeCells #[.int .u64 0, .int .u64 0, .int .u64 0, .int .u64 0] (s.size * 4)) 35)).heap.size = w1.heap.size + 1 := by show (w1.heap.push _).size = _; simp
  generalize Obj.cells (madeCells #[.int .u64 0, .int .u64 0, .int .u64 0, .int .u64 0] (s.size * 4)) 35 = ob at *
  obtain ⟨w2, e2⟩ : ∃ w2, w2 = w1.alloc ob := ⟨_, rfl⟩
  rw [← e2] at fv wv bel hsz
  have E1 : Hid _ := b1.eq
  have E2 : Hid _ := e2
  have s1 : w.heap.size < w1.heap.size := by have := b1.size; omega
  have s2 : w1.heap.size < w2.heap.size := by omega
  have HC : Hid (w2.cell? ⟨w.heap.size, 0, none⟩ = some (.slice none 0 0) ∧ w2.cell? ⟨w.heap.size, 1, none⟩ = some (.int .i64 0)) := two_below ⟨b1.c0, b1.c1⟩ bel s1
  have HC1 : Hid (w1.cell? ⟨w.heap.size, 0, none⟩ = some (.slice none 0 0) ∧ w1.cell? ⟨w.heap.size, 1, none⟩ = some (.int .i64 0)) := ⟨b1.c0, b1.c1⟩
  have HFz : Hid (Wrt w1 w.heap.size 0 2) := by
    intro t _
    rw [b1.eq]
    unfold World.frozen?
    rw [show (w.alloc (.cells #[.slice none 0 0, .int .i64 0] 24)).heap[w.heap.size]? = some (.cells #[.slice none 0 0, .int .i64 0] 24) by show (w.heap.push _)[w.heap.size]? = _; simp]
    simp
  have B1 : Hid (Below w.heap.size w w1) := b1.bel
  have B12 : Hid (Below w1.heap.size w1 w2) := bel
  have FV : Hid (Cl w2 w1.heap.size 0 s.size (txk s 0)) := fv.congr (fun t _ => by unfold txk; rw [if_neg (by omega)])
  have WV : Hid (Wrt w2 w1.heap.size 0 (s.size * 4)) := wv
  clear b1 fv wv bel hsz e2
  go_enter Tryd.func17, Tryd.ntmps17
  go_wp2_with (first | rw [← E1.out] | rw [← E2.out])
  clear E1 E2 hmk
  go_loopw [12] (fun vk wr => Below w1.heap.size w1 wr ∧ w1.heap.size < wr.heap.size ∧ ∃ k : Nat, k ≤ s.size ∧ vk = .int .i64 k ∧ Cl wr w1.heap.size 0 s.size (txk s k) ∧ Wrt wr w1.heap.size 0 (s.size * 4)) (fun vk _ => s.size - (intOf vk).toNat)
  case atStart => exact ⟨B12.out, s2, 0, Nat.zero_le _, rfl, FV.out, WV.out⟩
  case round =>
    obtain ⟨hbel, hsr, k, hk, rfl, hF, hW⟩ := hrel
    have HB : Hid _ := hbel
    have HF : Hid (Cl wr w1.heap.size 0 s.size (txk s k)) := hF
    have HW : Hid (Wrt wr w1.heap.size 0 (s.size * 4)) := hW
    clear hbel hF hW
    by_cases hkn : k < s.size
    · have hkI : (k : Int) < (s.size : Int) := by omega
      have hsx : (s.extract k (k + 1)).size < 9223372036854775808 := by rw [ByteArray.size_extract]; omega
      have cc : Hid (Calls Tryd.prog 31 #[.string (s.extract k (k + 1))] wr fun e w' => e = .returned (.agg #[.int .u64 ((wd (tx s k) 0 : Nat) : Int), .int .u64 ((wd (tx s k) 1 : Nat) : Int), .int .u64 ((wd (tx s k) 2 : Nat) : Int), .int .u64 ((wd (tx s k) 3 : Nat) : Int)]) ∧ Below wr.heap.size wr w') := of_any (s.extract k (k + 1)) hsx wr
      clear hsx
      go_wp2_with fail
      refine Calls.mono (Hid.out cc) ?_; rintro e w3 ⟨rfl, b3⟩
      have HB3 : Hid (Below w1.heap.size w1 w3) := HB.out.trans (b3.mono HB.out.size)
      have F3 : Hid (Cl w3 w1.heap.size 0 s.size (txk s k)) := HF.out.below b3 hsr
      have W3 : Hid (Wrt w3 w1.heap.size 0 (s.size * 4)) := Wrt.below HW.out b3 hsr
      have s3 : w1.heap.size < w3.heap.size := Nat.lt_of_lt_of_le hsr b3.size
      obtain ⟨a0, a1, a2, a3⟩ := F3.out.four hkn
      rw [Nat.zero_add] at a0 a1 a2 a3
      have f0 := Wrt.zero W3.out (k * 4) (by omega)
      have f1 := Wrt.zero W3.out (k * 4 + 1) (by omega)
      have f2 := Wrt.zero W3.out (k * 4 + 2) (by omega)
      have f3 := Wrt.zero W3.out (k * 4 + 3) (by omega)
      have HB4 : Hid (Below w1.heap.size w1 (put4 w3 w1.heap.size k (tx s k))) := HB3.out.trans ((put4_wrote _).below (fun b' o e => by omega))
      have F4 : Hid (Cl (put4 w3 w1.heap.size k (tx s k)) w1.heap.size 0 s.size (txk s (k + 1))) := (put4_cl F3.out hkn _).congr (txk_step s k s.size)
      have W4 : Hid (Wrt (put4 w3 w1.heap.size k (tx s k)) w1.heap.size 0 (s.size * 4)) := put4_wrt W3.out _
      have S4 : Hid (w1.heap.size < (put4 w3 w1.heap.size k (tx s k)).heap.size) := by show _ < _; rw [(put4_wrote (v := w3) (b := w1.heap.size) (k := k) (tx s k)).size]; exact s3
      clear b3 HF HW F3 W3
      go_wp2_with fail
      go_roundw
      case rel => exact ⟨HB4.out, S4.out, k + 1, by omega, by go_num, F4.out, W4.out⟩
      case measure => simp [intOf]; omega
    · obtain rfl : k = s.size := by omega
      have HLf : Hid (Cl wr w1.heap.size 0 s.size (tx s)) := HF.out.congr (fun t ht => by unfold txk; rw [if_pos ht])
      obtain ⟨z0, z1⟩ := two_below HC1.out HB.out s1
      have FZ : Hid (Wrt wr w.heap.size 0 2) := Wrt.below HFz.out HB.out s1
      have f0 := Wrt.zero FZ.out 0 (by omega)
      have f1 := Wrt.zero FZ.out 1 (by omega)
      have B2 : Hid (Below w.heap.size w wr) := B1.out.trans (HB.out.mono B1.out.size)
      have hq := put2_cells (x := .slice (some ⟨w1.heap.size, 0, none⟩) s.size s.size) (y := .int .i64 K) z0 z1
      have HQ : Hid _ := hq
      have HWr : Hid _ := put2_wrote (v := wr) (b := w.heap.size) (.slice (some ⟨w1.heap.size, 0, none⟩) s.size s.size) (.int .i64 K)
      clear hq
      go_wp2_with fail
      refine bodyPost_ret (results_box2 rfl _ (put2 wr w.heap.size (.slice (some ⟨w1.heap.size, 0, none⟩) s.size s.size) (.int .i64 K)) w.heap.size _ _ rfl HQ.out.1 HQ.out.2) rfl ?_
      refine ⟨⟨_, _, rfl, by omega, ?_, fun t ht j hj => ?_, HWr.out.wrt HW.out⟩, B2.out.trans (HWr.out.below (fun b' o e => by omega))⟩
      · exact Nat.lt_of_lt_of_eq hsr HWr.out.size.symm
      · exact (HWr.out.cell _ _ (by omega)).trans (HLf.out t ht j hj)

theorem text_any (s : ByteArray) (K : Int) (w : World) (hs : s.size ≤ 4398046511104) :
    Calls Tryd.prog 17 #[.string s, .int .i64 K] w fun e w' => (∃ bo d, e = .returned (.agg #[.slice bo s.size d, .int .i64 K]) ∧ Lf w' bo s.size (tx s)) ∧ Below w.heap.size w w' :=
  (text_core s K w hs).mono (by rintro e w' ⟨⟨g, d, rfl, h⟩, hb⟩; exact ⟨⟨_, d, rfl, hs, fun _ => ⟨g, 0, rfl, h.lt, h.cl⟩⟩, hb⟩)

end Cls
end Go.Proofs.YtcohcdebbkfdfaaDoor
