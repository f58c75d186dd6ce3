/- Contract of the document's Text. -/
import Derived.Test.YtcohcdebbkfdfaaDoorLfText
import Derived.Test.YtcohcdebbkfdfaaDoorLfKind
import Derived.Test.YtcohcdebbkfdfaaDoorLfStep
import Derived.Deep.AppendLies
import Derived.Deep.RegionLaw
namespace Go.Proofs.YtcohcdebbkfdfaaDoor
open Go.RowKit
namespace Cls

def txl (s : ByteArray) (k : Nat) : List (Nat → Bool) := (List.range k).map (tx s)

theorem txl_len (s : ByteArray) (k : Nat) : (txl s k).length = k := by simp [txl]

theorem txl_succ (s : ByteArray) (k : Nat) : txl s (k + 1) = txl s k ++ [tx s k] := by unfold txl; rw [List.range_succ, List.map_append]; rfl

theorem txl_at (s : ByteArray) (k t : Nat) (h : t < k) : at' (txl s k) t = tx s t := by
  rw [at_get (by rw [txl_len]; exact h)]
  simp [txl]

/-- A leaf in a box, whose row is appended to. -/
structure Tq (w1 w2 wr : World) (v : Value) (K : Int) (s : ByteArray) (k : Nat) : Prop where
  bel : Below w1.heap.size w1 wr
  lt : w1.heap.size < w2.heap.size
  size : w2.heap.size ≤ wr.heap.size
  c : wr.cell? ⟨w1.heap.size, 0, none⟩ = some v ∧ wr.cell? ⟨w1.heap.size, 1, none⟩ = some (.int .i64 K)
  f : Wrt wr w1.heap.size 0 2
  own : wr.ownsRow w2.heap.size 35 4 v k (cls (txl s k))

theorem Tq.grow {w1 w2 wr w' : World} {v : Value} {K : Int} {s : ByteArray} {k : Nat} (h : Tq w1 w2 wr v K s k) (b : Below wr.heap.size wr w') : Tq w1 w2 w' v K s k :=
  have hlt : w1.heap.size < wr.heap.size := Nat.lt_of_lt_of_le h.lt h.size
  ⟨h.bel.trans (b.mono h.bel.size), h.lt, Nat.le_trans h.size b.size, two_below h.c b hlt, h.f.below b hlt, owns_below h.own b (Nat.le_refl _)⟩

theorem Tq.step {w1 w2 w3 w4 : World} {v : Value} {K : Int} {s : ByteArray} {k g cap : Nat} {ob : Obj} (h : Tq w1 w2 w3 v K s k)
    (ho : w4.ownsRow w2.heap.size 35 4 (.slice (some ⟨g, 0, none⟩) (k + 1) cap) (k + 1) (cls (txl s k) ++ cls [tx s k])) (hg : (w3.alloc ob).grownBy w4 v.ownBlock) :
    w4.cell? ⟨w1.heap.size, 0, none⟩ = some v ∧ w4.frozen? ⟨w1.heap.size, 0, none⟩ = false ∧ Tq w1 w2 (w4.setCell ⟨w1.heap.size, 0, none⟩ (.slice (some ⟨g, 0, none⟩) (k + 1) cap)) (.slice (some ⟨g, 0, none⟩) (k + 1) cap) K s (k + 1) := by
  have hlt : w1.heap.size < w3.heap.size := Nat.lt_of_lt_of_le h.lt h.size
  have hlt' : w1.heap.size < (w3.alloc ob).heap.size := by show _ < (w3.heap.push _).size; simp; omega
  have hne : some w1.heap.size ≠ v.ownBlock := owns_apart h.own h.lt
  have bl : Below w3.heap.size w3 (w3.alloc ob) := (Below.refl _ _).alloc (Nat.le_refl _) _
  have h0 : w4.cell? ⟨w1.heap.size, 0, none⟩ = some v := (hg.cell_far ⟨w1.heap.size, 0, none⟩ hlt' hne).trans (two_below h.c bl hlt).1
  have h1 : w4.cell? ⟨w1.heap.size, 1, none⟩ = some (.int .i64 K) := (hg.cell_far ⟨w1.heap.size, 1, none⟩ hlt' hne).trans (two_below h.c bl hlt).2
  have hf : Wrt w4 w1.heap.size 0 2 := fun t ht => (hg.frozen_far ⟨w1.heap.size, 0 + t, none⟩ hlt' hne).trans (h.f.below bl hlt t ht)
  have hb4 : Below w1.heap.size w1 w4 := grow_below h.bel.size h.bel (owns_mono h.own (Nat.le_of_lt h.lt)) hg
  have hs4 : w2.heap.size ≤ w4.heap.size := Nat.le_trans h.size (Nat.le_trans (by show w3.heap.size ≤ (w3.heap.push _).size; simp) hg.size)
  have hw : Wrote (fun b' _ => b' = w1.heap.size) w4 (w4.setCell ⟨w1.heap.size, 0, none⟩ (.slice (some ⟨g, 0, none⟩) (k + 1) cap)) := Wrote.setCell (S := fun b' _ => b' = w1.heap.size) (Wrote.refl _ _) rfl _
  refine ⟨h0, hf.zero 0 (by omega), hb4.trans (hw.below (fun b' o e => by omega)), h.lt, by rw [hw.size]; exact hs4, ⟨World.cell?_setCell_same _ _ _ h0, by rw [cell_setCell_ne _ _ _ _ _ _ (Or.inr (by omega))]; exact h1⟩, hf.setCell _ _, ?_⟩
  rw [txl_succ, cls_append]
  obtain ⟨hl, he | ⟨g', cap', cur, hv, hg', hbk, hc, hm, hs, ht⟩⟩ := ho
  · exact absurd he.1 (by simp)
  · exact ⟨hl, Or.inr ⟨g', cap', cur, hv, hg', by rw [hw.block g' (fun o e => by have := h.lt; omega)]; exact hbk, hc, hm, hs, ht⟩⟩

set_option maxHeartbeats 2000000 in
theorem refText_any (s : ByteArray) (K : Int) (w : World) (hs : s.size ≤ 4398046511104) :
    Calls Tryd.prog 20 #[.string s, .int .i64 K] w fun e w' => (∃ bo d, e = .returned (.agg #[.slice bo s.size d, .int .i64 K]) ∧ Lf w' bo s.size (tx s)) ∧ Below w.heap.size w w' := by
  obtain ⟨w1, b1⟩ := lbox w (.slice none 0 0) (.int .i64 0)
  obtain ⟨w2, b2⟩ := lbox w1 (.slice none 0 0) (.int .i64 K)
  have E1 : Hid _ := b1.eq
  have E2 : Hid _ := b2.eq
  have HS : Hid (w.heap.size + 1 = w1.heap.size) := b1.size.symm
  have s1 : w.heap.size < w1.heap.size := by have := b1.size; omega
  have s2 : w1.heap.size < w2.heap.size := by have := b2.size; omega
  have HC1 : Hid (w1.cell? ⟨w.heap.size, 0, none⟩ = some (.slice none 0 0) ∧ w1.cell? ⟨w.heap.size, 1, none⟩ = some (.int .i64 0)) := ⟨b1.c0, b1.c1⟩
  have HFz : Hid (Wrt w1 w.heap.size 0 2) := by
    intro t _
    rw [b1.eq]
    unfold World.frozen?
    rw [show (w.alloc (.cells #[.slice none 0 0, .int .i64 0] 24)).heap[w.heap.size]? = some (.cells #[.slice none 0 0, .int .i64 0] 24) by show (w.heap.push _)[w.heap.size]? = _; simp]
    simp
  have HF2 : Wrt w2 w1.heap.size 0 2 := by
    intro t _
    rw [b2.eq]
    unfold World.frozen?
    rw [show (w1.alloc (.cells #[.slice none 0 0, .int .i64 K] 24)).heap[w1.heap.size]? = some (.cells #[.slice none 0 0, .int .i64 K] 24) by show (w1.heap.push _)[w1.heap.size]? = _; simp]
    simp
  have B1 : Hid (Below w.heap.size w w1) := b1.bel
  have T2 : Hid (Tq w1 w2 w2 (.slice none 0 0) K s 0) := ⟨b2.bel, s2, Nat.le_refl _, ⟨b2.c0, b2.c1⟩, HF2, World.ownsRow_nil _ _ _ _⟩
  obtain ⟨i0, hi, hz0, hz1, hz2⟩ := infoC
  clear b1 b2 HF2
  go_enter Tryd.func20, Tryd.ntmps20
  go_wp2_with (first | rw [← E1.out, ← E2.out, HS.out])
  clear E1 E2 HS
  go_loopw [6] (fun vk wr => ∃ k : Nat, k ≤ s.size ∧ vk = .int .i64 k ∧ ∃ v, Tq w1 w2 wr v K s k) (fun vk _ => s.size - (intOf vk).toNat)
  case atStart => exact ⟨0, Nat.zero_le _, rfl, _, T2.out⟩
  case round =>
    obtain ⟨k, hk, rfl, v, hT⟩ := hrel
    have TT : Hid (Tq w1 w2 wr v K s k) := hT
    clear hT T2
    by_cases hkn : k < s.size
    · have hkI : (k : Int) < (s.size : Int) := by omega
      have hsx : (s.extract k (k + 1)).size < 9223372036854775808 := by rw [ByteArray.size_extract]; omega
      have CP : Hid (∀ w : World, Calls Tryd.prog 36 #[.string (s.extract k (k + 1))] w fun e w' => e = .returned (.agg #[.int .u64 ((wd (tx s k) 0 : Nat) : Int), .int .u64 ((wd (tx s k) 1 : Nat) : Int), .int .u64 ((wd (tx s k) 2 : Nat) : Int), .int .u64 ((wd (tx s k) 3 : Nat) : Int)]) ∧ Below w.heap.size w w') := fun w => refOf_any (s.extract k (k + 1)) hsx w
      have hc := TT.out.c.1
      have hk0 : (0 : Int) ≤ (k : Int) := by omega
      have hk1 : (k : Int) ≤ (k : Int) + 1 := by omega
      have hk2 : (k : Int) + 1 ≤ (s.size : Int) := by omega
      have hk3 : (k : Int) ≤ (s.size : Int) := by omega
      have hkw : IntKind.i64.wrap ((k : Int) + 1) = (k : Int) + 1 := by rw [IntKind.wrap_i64]; omega
      clear hsx
      go_wp2_with fail
      go_region_law (first
        | (refine step_call (by rfl) 36 _ _ (by rfl) #[.string (s.extract k (k + 1))] (by simp [Act.eval, Act.put]) (fun w => run_enter Tryd.func36 (by kernel_rfl) (by kernel_rfl) _ w) _ _ (CP.out _) ?_; intro w3 b3; have T3 : Hid (Tq w1 w2 w3 v K s k) := Tq.grow TT.out (by first | exact undrew b3 | exact b3); have hc3 := T3.out.c.1; have hlt3 : w1.heap.size < w3.heap.size := Nat.lt_of_lt_of_le T3.out.lt T3.out.size; have hc4 : (w3.alloc (.cells #[.int .u64 ((wd (tx s k) 0 : Nat) : Int), .int .u64 ((wd (tx s k) 1 : Nat) : Int), .int .u64 ((wd (tx s k) 2 : Nat) : Int), .int .u64 ((wd (tx s k) 3 : Nat) : Int)] 35)).cell? ⟨w1.heap.size, 0, none⟩ = some v := (World.cell?_alloc_lt _ _ _ hlt3).trans hc3; have O3 := T3.out.own; have hsz3 := T3.out.size; clear b3 hc)
        | (refine step_append_lies _ (by rfl) _ _ _ (by rfl) w2.heap.size 35 i0 (.agg #[.int .u64 0, .int .u64 0, .int .u64 0, .int .u64 0]) 4 32 Tryd.underlying22 hi hz0 hz1 hz2 (by rfl) (by decide) v k (cls (txl s k)) (by simp [Act.eval]) (O3.alloc _) ⟨w3.heap.size, 0, none⟩ 1 1 (cls [tx s k]) (by simp [Act.eval]) (by rfl) (new4 _ _) (plain4 _) (by omega) (by unfold maxLen; omega) (by omega) (by simp; omega) _ (by rfl) ?_; intro g cap w4 hown4 hgrow hat hlt; obtain ⟨q0, q1, hq⟩ := Tq.step T3.out hown4 hgrow; have T4 : Hid _ := hq; clear hq hown4 hgrow hat hlt O3 hc3 hc4))
      all_goals
        go_wp2_with fail
        go_roundw
        case rel => exact ⟨k + 1, by omega, by go_num, _, T4.out⟩
        case measure => simp [intOf]; omega
    · obtain rfl : k = s.size := by omega
      have hbel := TT.out.bel
      obtain ⟨z0, z1⟩ := two_below HC1.out hbel s1
      have FZ : Hid (Wrt wr w.heap.size 0 2) := Wrt.below HFz.out hbel s1
      have f0 := Wrt.zero FZ.out 0 (by omega)
      have f1 := Wrt.zero FZ.out 1 (by omega)
      obtain ⟨c0, c1⟩ := TT.out.c
      obtain ⟨bo, d, hv, hI⟩ := ownC_lf (w := wr) (B := w2.heap.size) (v := v) (L := txl s s.size) (by unfold OwnC; rw [txl_len]; exact TT.out.own) (by rw [txl_len]; exact hs)
      rw [txl_len] at hv hI
      subst hv
      have HI : Hid (Lf wr bo s.size (at' (txl s s.size))) := hI
      have B2 : Hid (Below w.heap.size w wr) := B1.out.trans (hbel.mono B1.out.size)
      have hq := put2_cells (x := .slice bo s.size d) (y := .int .i64 K) z0 z1
      have HQ : Hid _ := hq
      have HWr : Hid _ := put2_wrote (v := wr) (b := w.heap.size) (.slice bo s.size d) (.int .i64 K)
      have hne : w.heap.size < w2.heap.size := Nat.lt_trans s1 s2
      clear hq hI hbel
      go_wp2_with fail
      refine bodyPost_ret (results_box2 rfl _ (put2 wr w.heap.size (.slice bo s.size d) (.int .i64 K)) w.heap.size _ _ rfl HQ.out.1 HQ.out.2) rfl ?_
      refine ⟨⟨_, _, rfl, hs, fun h1 => ?_⟩, B2.out.trans (HWr.out.below (fun b' o e => by omega))⟩
      obtain ⟨b, o, e, hb, hC⟩ := HI.out.lies h1
      have hbne : b ≠ w.heap.size := by
        have ho := TT.out.own
        obtain ⟨g, cap, hv, _, hg, _⟩ := owns_cells ho h1
        rw [e] at hv
        injection hv with hv
        injection hv with hv
        injection hv with hv
        omega
      exact ⟨b, o, e, Nat.lt_of_lt_of_eq hb HWr.out.size.symm, fun t ht j hj => (HWr.out.cell _ _ hbne).trans (by have := hC t ht j hj; rwa [txl_at s s.size t ht] at this)⟩

end Cls
end Go.Proofs.YtcohcdebbkfdfaaDoor
