/- Contracts of block.joined and of block.blocks. -/
import Derived.Test.YtdffofpoilfhiaaDoorBlkFwd
import Derived.RangeFuncBox
namespace Go.Proofs.YtdffofpoilfhiaaDoor
open Go.RowKit Res

/-- A box of three slices, of which the first k are cut. -/
structure Cut (w1 wr : World) (B k p r S : Nat) (G : Nat → Nat) : Prop where
  have_ : ∀ i, i < k → ∃ c, wr.cell? ⟨B, i, none⟩ = some (.slice (some ⟨G i, p, none⟩) r c)
  old : ∀ i, k ≤ i → i < 3 → wr.cell? ⟨B, i, none⟩ = some (.slice (some ⟨G i, 0, none⟩) S S)
  wrt : Wrt wr B 0 3
  wrote : Wrote (fun b _ => b = B) w1 wr
theorem Cut.step {w1 wr : World} {B k p r S c : Nat} {G : Nat → Nat} (h : Cut w1 wr B k p r S G) (hk : k < 3) : Cut w1 (wr.setCell ⟨B, k, none⟩ (.slice (some ⟨G k, p, none⟩) r c)) B (k + 1) p r S G := by
  refine ⟨fun i hi => ?_, fun i h1 h2 => ?_, h.wrt.setCell _ _, h.wrote.setCell rfl _⟩
  · by_cases e : i = k
    · subst e
      exact ⟨c, World.cell?_setCell_same _ _ _ (h.old i (Nat.le_refl _) hk)⟩
    · obtain ⟨c', hc⟩ := h.have_ i (by omega)
      exact ⟨c', (cell_setCell_ne _ _ _ _ _ _ (Or.inr e)).trans hc⟩
  · exact (cell_setCell_ne _ _ _ _ _ _ (Or.inr (by omega))).trans (h.old i (by omega) h2)

set_option maxHeartbeats 1000000 in
theorem bjoined_any (S p r : Nat) (hS : S ≤ 4096) (hr : 1 ≤ r) (hp : p + r ≤ S) (G : Nat → Nat) (F : Nat → Nat → Int) (V : Nat → Int) (hV0 : ∀ t, t < r → 0 ≤ V t) (hV1 : ∀ t, t < r → V t ≤ 18446744073709551615) (hF0 : ∀ k t, 0 ≤ F k t) (hF : ∀ (k : Nat) t, k < 3 → t < r → F k (p + t) = md k (V t)) (w : World) (hT : Tab w) (tg : Trio w G S F) :
    Calls Tryd.prog 34 #[.agg #[.slice (some ⟨G 0, 0, none⟩) S S, .slice (some ⟨G 1, 0, none⟩) S S, .slice (some ⟨G 2, 0, none⟩) S S], .int .i64 p, .int .i64 r] w fun e w' =>
      ∃ g, e = .returned (.slice (some ⟨g, 0, none⟩) r r) ∧ Fam w' g 0 r V ∧ Below w.heap.size w w' := by
  obtain ⟨w1, x1⟩ := boxR w G S 45
  have E1 : Hid _ := x1.eq
  have B1 : Hid _ := x1.bel
  have T1 : Tab w1 := hT.below x1.bel (tab_lt hT)
  have TG : Hid (Trio w1 G S F) := tg.below x1.bel (Nat.le_refl _)
  have LG : ∀ k, k < 3 → G k < w.heap.size := fun k hk => (tg k hk).2
  have C0 : Hid (Cut w1 w1 w.heap.size 0 p r S G) := ⟨fun i h => by omega, fun i _ h => x1.cell i h, x1.wrt, Wrote.refl _ _⟩
  have hs1 := x1.size
  have hlt := tab_lt hT
  have c1 : Hid (∀ (v : World), Tab v → Trio v G S F → ∀ c0 c1 c2 : Nat, Calls Tryd.prog 47 #[.slice (some ⟨G 0, p, none⟩) r c0, .slice (some ⟨G 1, p, none⟩) r c1, .slice (some ⟨G 2, p, none⟩) r c2] v fun e w' => ∃ g, e = .returned (.tuple #[.slice (some ⟨g, 0, none⟩) r r, .bool true]) ∧ Fam w' g 0 r V ∧ Below v.heap.size v w') := fun v hv tv c0 c1 c2 => by
    have part : ∀ k, k < 3 → Fam v (G k) p r (fun t => F k (p + t)) := fun k hk => by
      have := (tv k hk).1.part p r hp
      rwa [Nat.zero_add] at this
    refine (rows_any _ _ _ r c0 c1 c2 (by omega) (fun t => F 0 (p + t)) (fun t => F 1 (p + t)) (fun t => F 2 (p + t)) (fun t => hF0 _ _) (fun t => hF0 _ _) (fun t => hF0 _ _) v hv (fun _ => ⟨G 0, p, rfl, part 0 (by omega)⟩) (fun _ => ⟨G 1, p, rfl, part 1 (by omega)⟩) (fun _ => ⟨G 2, p, rfl, part 2 (by omega)⟩)).mono ?_
    rintro e w' ⟨ht, hb⟩
    have key : ∀ t, t < r → nm (F 0 (p + t)) (F 1 (p + t)) (F 2 (p + t)) = V t := fun t ht => by
      rw [hF 0 t (by omega) ht, hF 1 t (by omega) ht, hF 2 t (by omega) ht]
      exact nm_of (hV0 t ht) (hV1 t ht)
    rcases ht with ⟨_, g, he, _, _, hf⟩ | ⟨⟨t, ht, hbig⟩, _⟩
    · exact ⟨g, he, hf.congr key, hb⟩
    · exfalso
      have := hV1 t ht
      have hbig' : 18446744073709551616 ≤ nm (F 0 (p + t)) (F 1 (p + t)) (F 2 (p + t)) := hbig
      rw [key t ht] at hbig'
      omega
  have hpI : (p : Int) + (r : Int) ≤ (S : Int) := by omega
  obtain ⟨q, hq⟩ : ∃ q, q = p + r := ⟨_, rfl⟩
  have hqI : (p : Int) + (r : Int) = (q : Int) := by omega
  have hqS : q ≤ S := by omega
  have hpq : p ≤ q := by omega
  have hqp : q - p = r := by omega
  clear x1 tg hF hF0 hV0 hV1 hT hq hp
  go_enter Tryd.func34, Tryd.ntmps34
  go_wp2_with fail
  rw [← E1.out]
  clear E1
  generalize hB : w.heap.size = B at *
  have HB : Hid (w.heap.size = B) := hB
  clear hB
  go_loopw [10] (fun vi wr => ∃ k : Nat, k ≤ 3 ∧ vi = .int .i64 k ∧ Cut w1 wr B k p r S G) (fun vi _ => 3 - (intOf vi).toNat)
  case atStart => exact ⟨0, Nat.zero_le _, rfl, C0.out⟩
  case round =>
    obtain ⟨k, hk, rfl, hC⟩ := hrel
    have HC : Hid _ := hC
    by_cases hk3 : k < 3
    · have hkI : (k : Int) < 3 := by omega
      have hck := hC.old k (Nat.le_refl _) hk3
      have hfk := hC.wrt.zero k hk3
      have HS : Hid (∀ c, Cut w1 (wr.setCell ⟨B, k, none⟩ (.slice (some ⟨G k, p, none⟩) r c)) B (k + 1) p r S G) := fun c => HC.out.step hk3
      clear hC
      go_wp2_with fail
      go_roundw
      case rel => exact ⟨k + 1, by omega, by go_num, HS.out _⟩
      case measure => simp [intOf]; omega
    · obtain rfl : k = 3 := by omega
      obtain ⟨q0, k0⟩ := hC.have_ 0 (by omega)
      obtain ⟨q1, k1⟩ := hC.have_ 1 (by omega)
      obtain ⟨q2, k2⟩ := hC.have_ 2 (by omega)
      have Tr : Tab wr := T1.wrote hC.wrote (fun o e => by omega)
      have tr : Trio wr G S F := fun i hi => ⟨hC.wrote.fam (TG.out i hi).1 (fun t _ e => by have := LG i hi; omega), by rw [hC.wrote.size]; exact (TG.out i hi).2⟩
      have c1' : Hid _ := c1.out wr Tr tr q0 q1 q2
      have Br : Hid (Below w.heap.size w wr) := by show Below _ _ _; rw [HB.out]; exact B1.out.trans (hC.wrote.below (fun b o e => by omega))
      have hsr : Hid (w.heap.size ≤ wr.heap.size) := Br.out.size
      clear hC tr c1
      go_wp2_with fail
      refine Calls.mono (Hid.out c1') ?_; rintro e w5 ⟨g, rfl, f5, b5⟩
      have F5 : Hid _ := f5
      have B5 : Hid (Below w.heap.size w w5) := Br.out.trans (b5.mono hsr.out)
      clear f5 b5
      go_wp2_with fail
      go_ret
      exact ⟨g, rfl, F5.out, B5.out⟩

/-- Three numbers in boxes of their own. -/
theorem three_boxes (w : World) (m n s : Int) (ty : TypeId) : ∃ v, v = ((w.alloc (.cells #[.int .i64 m] ty)).alloc (.cells #[.int .i64 n] ty)).alloc (.cells #[.int .i64 s] ty) ∧ Boxed v w.heap.size ty (.int .i64 m) ∧ Boxed v (w.heap.size + 1) ty (.int .i64 n) ∧ Boxed v (w.heap.size + 1 + 1) ty (.int .i64 s) ∧ Below w.heap.size w v ∧ v.heap.size = w.heap.size + 3 := by
  have z1 : (w.alloc (.cells #[.int .i64 m] ty)).heap.size = w.heap.size + 1 := size_alloc _ _
  have z2 : ((w.alloc (.cells #[.int .i64 m] ty)).alloc (.cells #[.int .i64 n] ty)).heap.size = w.heap.size + 1 + 1 := by rw [size_alloc, z1]
  have h1 := ((Boxed.new w ty (.int .i64 m)).alloc (.cells #[.int .i64 n] ty)).alloc (.cells #[.int .i64 s] ty)
  have h2 := (Boxed.new (w.alloc (.cells #[.int .i64 m] ty)) ty (.int .i64 n)).alloc (.cells #[.int .i64 s] ty)
  have h3 := Boxed.new ((w.alloc (.cells #[.int .i64 m] ty)).alloc (.cells #[.int .i64 n] ty)) ty (.int .i64 s)
  rw [z1] at h2
  rw [z2] at h3
  exact ⟨_, rfl, h1, h2, h3, (((Below.refl _ w).alloc (Nat.le_refl _) _).alloc (by rw [size_alloc]; omega) _).alloc (by rw [z2]; omega) _, by rw [size_alloc, z2]⟩

set_option maxHeartbeats 400000 in
theorem blocks_any (m n s : Int) (w : World) :
    Calls Tryd.prog 32 #[.int .i64 m, .int .i64 n, .int .i64 s] w fun e w' => e = .returned (.func (.func 44) #[] #[.pointer (some ⟨w.heap.size + 1 + 1, 0, none⟩), .pointer (some ⟨w.heap.size, 0, none⟩), .pointer (some ⟨w.heap.size + 1, 0, none⟩)]) ∧
      Boxed w' w.heap.size 3 (.int .i64 m) ∧ Boxed w' (w.heap.size + 1) 3 (.int .i64 n) ∧ Boxed w' (w.heap.size + 1 + 1) 3 (.int .i64 s) ∧ Below w.heap.size w w' ∧ w'.heap.size = w.heap.size + 3 := by
  obtain ⟨v, ev, h1, h2, h3, h4, h5⟩ := three_boxes w m n s 3
  have EV : Hid _ := ev
  have H : Hid _ := And.intro h1 (And.intro h2 (And.intro h3 (And.intro h4 h5)))
  clear ev h1 h2 h3 h4 h5
  go_enter Tryd.func32, Tryd.ntmps32
  go_wp2_with fail
  rw [← EV.out]
  go_ret
  exact ⟨rfl, H.out⟩
end Go.Proofs.YtdffofpoilfhiaaDoor
