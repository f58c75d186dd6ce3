/- Rows of whole numbers that are new and written into; contracts of math/bits.Mul and of slices.Repeat of one number. -/
import Derived.Test.YtppmmobmoanagaaDoorSyDef
import Derived.Test.YtppmmobmoanagaaDoorNvA
import Derived.Test.YtppmmobmoanagaaDoorCrtBits
import Derived.Test.YtppmmobmoanagaaDoorFuRow
import Derived.Laws.CopyRow
import Derived.Laws.CopyOwn
namespace Go.Proofs.YtppmmobmoanagaaDoor
open Go.RowKit Res
namespace Cls

/-- A row of n numbers at the head of block g. -/
structure Ri (w : World) (g n : Nat) (F : Nat → Int) : Prop where
  row : ∃ cur : Array Value, w.heap[g]? = some (.cells cur 3) ∧ cur.size = n ∧ ∀ t, t < n → cur[t]? = some (.int .i64 (F t))

theorem Ri.cell {w : World} {g n : Nat} {F : Nat → Int} (h : Ri w g n F) {t : Nat} (ht : t < n) : w.cell? ⟨g, t, none⟩ = some (.int .i64 (F t)) := by
  obtain ⟨cur, hg, _, hc⟩ := h.row
  unfold World.cell?
  rw [hg]
  exact hc t ht

theorem Ri.frozen {w : World} {g n : Nat} {F : Nat → Int} (h : Ri w g n F) (t : Nat) : w.frozen? ⟨g, t, none⟩ = false := by
  obtain ⟨cur, hg, _, _⟩ := h.row
  unfold World.frozen?
  rw [hg]
  simp

theorem Ri.lt {w : World} {g n : Nat} {F : Nat → Int} (h : Ri w g n F) : g < w.heap.size := by
  obtain ⟨cur, hg, _, _⟩ := h.row
  exact (Array.getElem?_eq_some_iff.1 hg).1

theorem Ri.block {w w' : World} {g n : Nat} {F : Nat → Int} (h : Ri w g n F) (e : w'.heap[g]? = w.heap[g]?) : Ri w' g n F := by
  obtain ⟨cur, hg, hr⟩ := h.row
  exact ⟨cur, e.trans hg, hr⟩

theorem Ri.grow {w w' : World} {g n : Nat} {F : Nat → Int} (h : Ri w g n F) (hb : Below w.heap.size w w') : Ri w' g n F := h.block (hb.block g h.lt)

theorem Ri.congr {w : World} {g n : Nat} {F G : Nat → Int} (h : Ri w g n F) (e : ∀ t, t < n → F t = G t) : Ri w g n G := by
  obtain ⟨cur, hg, hs, hc⟩ := h.row
  exact ⟨cur, hg, hs, fun t ht => by rw [hc t ht, e t ht]⟩

theorem Ri.put {w : World} {g n : Nat} {F : Nat → Int} (h : Ri w g n F) (k : Nat) (x : Int) : Ri (w.setCell ⟨g, k, none⟩ (.int .i64 x)) g n (upd F k x) := by
  obtain ⟨cur, hg, hs, hc⟩ := h.row
  refine ⟨cur.setIfInBounds k (.int .i64 x), ?_, by simp [hs], fun t ht => ?_⟩
  · rw [setCell_eq_setRow w g k cur 3 (0, 0) _ hg]
    exact setRow_heap w g cur _ _ _ hg
  · by_cases e : t = k
    · subst e
      rw [upd_at]
      simp [hs, ht]
    · rw [upd_off e, ← hc t ht]
      simp [Ne.symm e]

theorem Ri.ir {w : World} {g n : Nat} {F : Nat → Int} (h : Ri w g n F) : Ir w (some ⟨g, 0, none⟩) n F := fun _ => ⟨g, 0, rfl, h.lt, fun t ht => by rw [Nat.zero_add]; exact h.cell ht⟩

theorem Ri.is {w : World} {g : Nat} {L : List Nat} {F : Nat → Int} (h : Ri w g L.length F) (e : ∀ t, (ht : t < L.length) → F t = ((L[t] : Nat) : Int)) : Is w (some ⟨g, 0, none⟩) L := fun _ => ⟨g, rfl, h.lt, fun t ht => by rw [h.cell ht, e t ht]⟩

theorem infoN : (Tryd.prog.info? 3).map (fun i => (i.zero, i.size, i.bytes)) = some (some (.int .i64 0), 1, 8) := by kernel_rfl

theorem ri_made (w : World) (n : Nat) : Ri (w.alloc (.cells (madeCells #[.int .i64 0] n) 3)) w.heap.size n (fun _ => 0) := by
  obtain ⟨c, hb, hn, hc⟩ := World.rowIs_made w (.int .i64 0) n 3
  exact ⟨c, hb, hn, fun t ht => hc t ht⟩

theorem makeI (n : Nat) (hn : n ≤ 10000000) (w : World) : (Instr.makeSlice 35 (.int .i64 (n : Int)) (.int .i64 (n : Int))).run Tryd.prog w = .ok (.slice (some ⟨w.heap.size, 0, none⟩) n n) (w.alloc (.cells (madeCells #[.int .i64 0] n) 3)) :=
  run_make_row' (P := Tryd.prog) 35 3 (.int .i64 0) 8 Tryd.underlying35 infoN rfl .i64 .i64 n (by omega) (by omega) w

/-- Numbers that are all the same, copied into a row from place k on. -/
theorem ri_copy (w : World) (g k c j cap sl sc : Nat) (a : Addr) (F : Nat → Int) (B : Int) (h : Ri w g c F) (hk : k ≤ c) (hj : j = min sl (c - k)) (hsrc : ∀ t, t < j → w.cell? (a.add t) = some (.int .i64 B)) :
    ∃ w2, (Builtin.copy_ #[35, 35] 3 #[.slice (some ⟨g, k, none⟩) (c - k) cap, .slice (some a) sl sc]).run Tryd.prog w = .ok (.int .i64 (j : Int)) w2 ∧ Ri w2 g c (fun t => if k ≤ t ∧ t < k + j then B else F t) ∧ Below g w w2 := by
  obtain ⟨cur, hg, hs, hc⟩ := h.row
  have hl : (List.replicate j (Value.int .i64 B)).length = j := List.length_replicate ..
  have hr := run_copy_row (P := Tryd.prog) w 35 35 3 3 g k (c - k) cap a sl sc cur 3 (List.replicate j (.int .i64 B)) Tryd.underlying35 (by kernel_rfl) hg (by rw [hl]; omega) (fun t v hv => by
    rw [List.getElem?_replicate] at hv
    split at hv
    · rename_i ht; cases hv; exact hsrc t ht
    · cases hv) (by rw [hl, hs]; omega) (fun v hv => by rw [List.mem_replicate] at hv; rw [hv.2]; rfl)
  rw [hl] at hr
  refine ⟨_, hr, ⟨_, setRow_heap w g cur _ 3 (0, 0) hg, ?_, fun t ht => ?_⟩, ?_⟩
  · simp [hs]; omega
  · have hct := hc t ht
    simp only [List.getElem?_toArray, List.append_assoc]
    have ht0 : (cur.toList.take k).length = k := by simp [hs]; omega
    by_cases h1 : t < k
    · rw [List.getElem?_append_left (by omega), if_neg (by omega), List.getElem?_take_of_lt h1, Array.getElem?_toList]
      exact hct
    · rw [List.getElem?_append_right (by omega), ht0]
      by_cases h2 : t < k + j
      · rw [if_pos ⟨by omega, h2⟩, List.getElem?_append_left (by rw [hl]; omega), List.getElem?_replicate, if_pos (by omega)]
      · rw [if_neg (by omega), List.getElem?_append_right (by rw [hl]; omega), hl, List.getElem?_drop, show k + j + (t - k - j) = t by omega, Array.getElem?_toList]
        exact hct
  · exact below_setRow (Below.refl _ _) (Nat.le_refl _) _

theorem mul_any (x y : Int) (hx0 : 0 ≤ x) (hy0 : 0 ≤ y) (hx : x < 18446744073709551616) (hy : y < 18446744073709551616) (w : World) :
    Calls Tryd.prog 57 #[.int .u64 x, .int .u64 y] w fun e w' => e = .returned (.tuple #[.int .u64 (x * y / 18446744073709551616), .int .u64 (x * y % 18446744073709551616)]) ∧ w' = w := by
  have c1 : Hid _ := mul64_any x y hx0 hy0 hx hy w
  generalize x * y / 18446744073709551616 = p at *
  generalize x * y % 18446744073709551616 = q at *
  go_enter Tryd.func57, Tryd.ntmps57
  go_wp2_with fail
  refine Calls.mono (Hid.out c1) ?_; rintro e w' ⟨rfl, hw'⟩; subst w'
  go_wp2_with fail
  refine bodyPost_ret (results_tmp2 rfl _ _ _) rfl ?_
  exact ⟨rfl, rfl⟩

set_option maxRecDepth 100000 in
set_option maxHeartbeats 4000000 in
theorem repeat_any (B : Int) (y c cap : Nat) (hc1 : 1 ≤ c) (hc : c ≤ 1000001) (w : World) (hy : w.cell? ⟨y, 0, none⟩ = some (.int .i64 B)) :
    Calls Tryd.prog 36 #[.slice (some ⟨y, 0, none⟩) 1 cap, .int .i64 (c : Int)] w fun e w' => ∃ g, e = .returned (.slice (some ⟨g, 0, none⟩) c c) ∧ Ri w' g c (fun _ => B) ∧ w.heap.size ≤ g ∧ Below w.heap.size w w' := by
  have cm : Hid _ := mul_any 1 (c : Int) (by omega) (by omega) (by omega) (by omega) w
  rw [show (1 : Int) * (c : Int) / 18446744073709551616 = 0 by omega, show (1 : Int) * (c : Int) % 18446744073709551616 = (c : Int) by omega] at cm
  have hmk := makeI c (by omega)
  have hri := ri_made w c
  have bel : Below w.heap.size w (w.alloc (.cells (madeCells #[.int .i64 0] c) 3)) := (Below.refl _ _).alloc (Nat.le_refl _) _
  generalize Obj.cells (madeCells #[.int .i64 0] c) 3 = ob at *
  obtain ⟨w1, e1⟩ : ∃ w1, w1 = w.alloc ob := ⟨_, rfl⟩
  rw [← e1] at hri bel
  have E1 : Hid _ := e1
  have hlt : y < w.heap.size := World.block_lt_of_cell? w _ hy
  have y1 : w1.cell? ⟨y, 0, none⟩ = some (.int .i64 B) := (bel.cell (p := ⟨y, 0, none⟩) hlt).trans hy
  obtain ⟨w2, hcp, r2, b2⟩ := ri_copy w1 w.heap.size 0 c 1 c 1 cap ⟨y, 0, none⟩ (fun _ => 0) B hri (Nat.zero_le _) (by omega) (fun t ht => by
    have e0 : t = 0 := by omega
    subst e0
    simpa [Addr.add] using y1)
  rw [Nat.sub_zero] at hcp
  have R2 : Hid (∃ F : Nat → Int, Ri w2 w.heap.size c F ∧ ∀ t, t < 1 → F t = B) := ⟨_, r2, fun t ht => by rw [if_pos (by omega)]⟩
  have B2 : Hid (Below w.heap.size w w2) := bel.trans b2
  have hcI : (1 : Int) ≤ (c : Int) := by omega
  clear e1 hri bel r2 b2 hy y1
  go_enter Tryd.func36, Tryd.ntmps36
  go_wp2_with fail
  refine Calls.mono (Hid.out cm) ?_; rintro e w' ⟨rfl, hw'⟩; subst w'
  go_wp2_with (first | rw [← E1.out])
  clear cm hmk hcp E1
  go_loopw [8] (fun vk wr => Below w.heap.size w wr ∧ ∃ k : Nat, 1 ≤ k ∧ k ≤ c ∧ vk = .int .i64 k ∧ ∃ F : Nat → Int, Ri wr w.heap.size c F ∧ ∀ t, t < k → F t = B) (fun vk _ => c - (intOf vk).toNat)
  case atStart => exact ⟨B2.out, 1, Nat.le_refl _, hc1, rfl, R2.out⟩
  case round =>
    obtain ⟨hbel, k, hk1, hk, rfl, F, hF, hFB⟩ := hrel
    by_cases hkc : k < c
    · have hkI : (k : Int) < (c : Int) := by omega
      obtain ⟨w3, hcp, r3, b3⟩ := ri_copy wr.drew w.heap.size k c (min k (c - k)) (c - k) k c ⟨w.heap.size, 0, none⟩ F B (hF.block rfl) hk rfl (fun t ht => by
        have h1 := (hF.block (w' := wr.drew) rfl).cell (t := t) (by omega)
        rw [hFB t (by omega)] at h1
        rw [show (⟨w.heap.size, 0, none⟩ : Addr).add t = ⟨w.heap.size, t, none⟩ by unfold Addr.add; split <;> simp_all]
        exact h1)
      have hsl : c - k + k = c := by omega
      have R3 : Hid _ := r3
      have B3 : Hid (Below w.heap.size w w3) := (hbel.drew).trans b3
      clear hF r3 b3 hbel
      obtain ⟨j, hj⟩ : ∃ j, min k (c - k) = j := ⟨_, rfl⟩
      have hj1 : 1 ≤ j ∧ k + j ≤ c := by omega
      rw [hj] at hcp R3
      go_wp2_with fail
      go_region_held3 (fun _ => True) (trivial) (fail)
      have hw : IntKind.i64.wrap ((k : Int) + (j : Int)) = ((k + j : Nat) : Int) := by rw [IntKind.wrap_i64]; omega
      rw [hw]
      go_wp2_with fail
      go_roundw
      case rel => exact ⟨B3.out, k + j, by omega, hj1.2, rfl, _, R3.out, fun t ht => by
        by_cases e : k ≤ t ∧ t < k + j
        · rw [if_pos e]
        · rw [if_neg e]; exact hFB t (by omega)⟩
      case measure => simp [intOf]; omega
    · obtain rfl : k = c := by omega
      have hkI : ¬ (k : Int) < (k : Int) := by omega
      have HR : Hid (Ri wr w.heap.size k (fun _ => B)) := hF.congr hFB
      have HB : Hid _ := hbel
      clear hF hFB hbel
      go_wp2_with fail
      go_ret
      exact ⟨_, rfl, HR.out, Nat.le_refl _, HB.out⟩

end Cls
end Go.Proofs.YtppmmobmoanagaaDoor
