/- Rows of one's own, written in place, cut. Nothing of the program. Rows of one's own into which an element is put; copy at elements of some cells. Nothing of the program. Contract of slices.Insert at rows of nodes: one node, ahead of one that is there. Contracts of query.written, between, writtenLeaf; slices.Contains at integers. The reader of queries in memory; contracts of next, step, place, readClose. Contract of (*query.reader).readFind. (Written by mkqps.py.) Contract of (*query.reader).readRow. Contracts of (*query.reader).readPart, readQuery, readItem. (Written by mkqpt.py.) -/
import Derived.Laws.AppendOwn
import Derived.Laws.IdiomCopy
import Derived.Maps.AppendAt
import Derived.Shelf.Spec.SlicesInsertGrow
import Derived.Test.YtbnnobeahliffaaGreatDoorQyA
import Derived.Test.YtbnnobeahliffaaGreatDoorQyB

namespace Go.Proofs.YtbnnobeahliffaaGreatDoor
set_option linter.unusedVariables false
set_option linter.unusedSimpArgs false

theorem setCell_block {W : World} {g : Nat} {cur : Array Value} {e : TypeId} {fz : Nat × Nat} (h : W.heap[g]? = some (.cells cur e fz)) (j : Nat) (u : Value) : (W.setCell ⟨g, j, none⟩ u).heap[g]? = some (.cells (cur.setIfInBounds j u) e fz) := by
  unfold World.setCell
  simp [Array.getElem?_modify, h]

theorem setCells_block : ∀ (vs : List Value) {W : World} {g : Nat} {cur : Array Value} {e : TypeId} {fz : Nat × Nat} (_ : W.heap[g]? = some (.cells cur e fz)) (o : Nat) (_ : o + vs.length ≤ cur.size),
    ∃ cur' : Array Value, (W.setCells g o vs).heap[g]? = some (.cells cur' e fz) ∧ cur'.size = cur.size ∧ cur'.toList = cur.toList.take o ++ vs ++ cur.toList.drop (o + vs.length)
  | [], W, g, cur, e, fz, h, o, ho => ⟨cur, h, rfl, by simp⟩
  | v :: r, W, g, cur, e, fz, h, o, ho => by
    simp only [List.length_cons] at ho
    obtain ⟨c', h1, h2, h3⟩ := setCells_block r (setCell_block h o v) (o + 1) (by simp; omega)
    refine ⟨c', h1, by rw [h2]; simp, ?_⟩
    rw [h3]
    have hl : o < cur.toList.length := by simp; omega
    simp only [Array.toList_setIfInBounds, List.length_cons]
    have e1 : (cur.toList.set o v).take (o + 1) = cur.toList.take o ++ [v] := by
      have hl2 : o < (cur.toList.set o v).length := by rw [List.length_set]; exact hl
      rw [← List.take_append_getElem hl2, List.getElem_set_self, List.take_set, List.set_eq_of_length_le]
      rw [List.length_take]
      exact Nat.min_le_left _ _
    have e2 : (cur.toList.set o v).drop (o + 1 + r.length) = cur.toList.drop (o + (r.length + 1)) := by
      rw [List.drop_set, if_pos (by omega), show o + 1 + r.length = o + (r.length + 1) by omega]
    rw [e1, e2]
    simp

/-- An element is written. -/
theorem own_set {W : World} {n₀ g n cap sz : Nat} {e : TypeId} {L : List Value} (h : W.ownsRow n₀ e sz (.slice (some ⟨g, 0, none⟩) n cap) n L) (j : Nat) (hj : j < n * sz) (u : Value) : (W.setCell ⟨g, j, none⟩ u).ownsRow n₀ e sz (.slice (some ⟨g, 0, none⟩) n cap) n (L.set j u) := by
  obtain ⟨hl, ⟨e1, _⟩ | ⟨g', cap', cur, hv, hg', hbk, hc, hm, hs, ht⟩⟩ := h
  · cases e1
  · injection hv with a1 a2 a3
    injection a1 with a1
    injection a1 with a1 _ _
    subst a1 a3
    refine ⟨by rw [List.length_set]; exact hl, .inr ⟨g, cap, cur.setIfInBounds j u, rfl, hg', setCell_block hbk j u, hc, hm, by simpa using hs, ?_⟩⟩
    rw [Array.toList_setIfInBounds, List.take_set, ht]

/-- The end is cut off. -/
theorem own_cut {W : World} {n₀ n cap sz : Nat} {so : Option Addr} {e : TypeId} {L : List Value} (h : W.ownsRow n₀ e sz (.slice so n cap) n L) (k : Nat) (hk : k ≤ n) : W.ownsRow n₀ e sz (.slice so k cap) k (L.take (k * sz)) := by
  have hks : k * sz ≤ n * sz := Nat.mul_le_mul_right sz hk
  obtain ⟨hl, ⟨e1, e2⟩ | ⟨g', cap', cur, hv, hg', hbk, hc, hm, hs, ht⟩⟩ := h
  · injection e1 with a1 a2 a3
    subst a1 a3
    obtain rfl : k = 0 := by omega
    exact ⟨by simp, .inl ⟨rfl, rfl⟩⟩
  · injection hv with a1 a2 a3
    subst a1 a3
    refine ⟨by rw [List.length_take, hl]; omega, .inr ⟨g', cap, cur, rfl, hg', hbk, by omega, hm, hs, ?_⟩⟩
    rw [← ht, List.take_take, Nat.min_eq_left hks]

/-- What is known of a row that has elements. -/
theorem own_at {W : World} {n₀ n sz : Nat} {e : TypeId} {v : Value} {L : List Value} (h : W.ownsRow n₀ e sz v n L) (hn : 1 ≤ n) : ∃ g cap, v = .slice (some ⟨g, 0, none⟩) n cap ∧ n₀ ≤ g ∧ g < W.heap.size ∧ n ≤ cap ∧ cap ≤ maxLen ∧ (∀ j, j < n * sz → W.cell? ⟨g, j, none⟩ = L[j]?) ∧ (∀ j, W.frozen? ⟨g, j, none⟩ = false) ∧ (∀ j, j < cap * sz → (W.cell? ⟨g, j, none⟩).isSome = true) := by
  obtain ⟨hl, ⟨e1, e2⟩ | ⟨g', cap', cur, hv, hg', hbk, hc, hm, hs, ht⟩⟩ := h
  · omega
  · refine ⟨g', cap', hv, hg', (Array.getElem?_eq_some_iff.1 hbk).1, hc, hm, fun j hj => ?_, fun j => ?_, fun j hj => ?_⟩
    · have : W.cell? ⟨g', j, none⟩ = cur[j]? := by unfold World.cell?; rw [hbk]; rfl
      rw [this, ← ht, List.getElem?_take, if_pos hj]
      simp
    · unfold World.frozen?
      rw [hbk]
      simp
    · have : W.cell? ⟨g', j, none⟩ = cur[j]? := by unfold World.cell?; rw [hbk]; rfl
      rw [this, Array.getElem?_eq_getElem (by omega)]
      rfl

end Go.Proofs.YtbnnobeahliffaaGreatDoor

set_option linter.unusedVariables false
set_option linter.unusedSimpArgs false
namespace Go.Proofs.YtbnnobeahliffaaGreatDoor
open Go

theorem run_copy_cellsK {P : Program} (w : World) (dT sT ty elem : TypeId) (sz b o dLen dCap : Nat) (a : Addr) (sLen sCap m : Nat) (cs : List Value)
    (hu : P.underlying dT = some (.slice elem)) (hs : (P.info? elem).map (·.size) = some sz) (hm : Nat.min sLen dLen = m) (hn : cs.length = m * sz)
    (hsrc : ∀ j v, cs[j]? = some v → w.cell? (a.add j) = some v) (hc : ∀ j, j < cs.length → (w.cell? ⟨b, o + j, none⟩).isSome = true) (hf : ∀ j, j < cs.length → w.frozen? ⟨b, o + j, none⟩ = false) (h1 : ∀ v ∈ cs, v.oneCell' = true) :
    (Builtin.copy_ #[dT, sT] ty #[.slice (some ⟨b, o, none⟩) dLen dCap, .slice (some a) sLen sCap]).run P w = .ok (goInt m) (w.setCells b o cs) := by
  have hl := run_loadCells_list (P := P) w a cs hsrc
  have hst := run_storeCells_cells (P := P) b o cs 0 w (by simpa using hc) (by simpa using hf) h1
  cases hq : P.info? elem with
  | none => simp [hq] at hs
  | some i =>
    have hi : i.size = sz := by simpa [hq] using hs
    simp [Builtin.copy_, run_underlying hu, Builtin.lenOf, Builtin.firstCells, sizeOf, typeInfo, hq, hi, hm, ← hn, hl, hst]

theorem ins_list (cur cs vs : List Value) (A N s : Nat) (hcs : cur.take N = cs) (hA : A ≤ N) (hv : vs.length = s) (hN : N + s ≤ cur.length) (c1 : List Value) (h1 : c1 = cur.take (A + s) ++ cs.drop A ++ cur.drop (A + s + (cs.drop A).length)) :
    (c1.take A ++ vs ++ c1.drop (A + s)).take (N + s) = cs.take A ++ vs ++ cs.drop A := by
  have hcl : cs.length = N := by rw [← hcs, List.length_take]; omega
  have hl1 : (cur.take (A + s)).length = A + s := by rw [List.length_take]; omega
  have e1 : c1.take A = cs.take A := by
    rw [h1, List.append_assoc, List.take_append_of_le_length (by omega), List.take_take, ← hcs, List.take_take, Nat.min_eq_left (by omega), Nat.min_eq_left hA]
  have e2 : c1.drop (A + s) = cs.drop A ++ cur.drop (A + s + (cs.drop A).length) := by
    rw [h1, List.append_assoc, List.drop_left' hl1]
  rw [e1, e2, ← List.append_assoc]
  apply List.take_left'
  simp only [List.length_append, List.length_take, List.length_drop, hcl, hv]
  omega

theorem own_ins {W : World} {n₀ g n cap sz : Nat} {e : TypeId} {cs : List Value} (h : W.ownsRow n₀ e sz (.slice (some ⟨g, 0, none⟩) n cap) n cs) (hc : n + 1 ≤ cap) (i : Nat) (hi : i < n) (vs : List Value) (hv : vs.length = sz) :
    ((W.setCells g ((i + 1) * sz) (cs.drop (i * sz))).setCells g (i * sz) vs).ownsRow n₀ e sz (.slice (some ⟨g, 0, none⟩) (n + 1) cap) (n + 1) (cs.take (i * sz) ++ vs ++ cs.drop (i * sz)) := by
  obtain ⟨hl, ⟨e1, _⟩ | ⟨g', cap', cur, hx, hg', hbk, hnc, hm, hs, ht⟩⟩ := h
  · cases e1
  · injection hx with a1 a2 a3
    injection a1 with a1
    injection a1 with a1 _ _
    subst a1 a3
    have hA : i * sz ≤ n * sz := Nat.mul_le_mul_right sz (by omega)
    have hC : (n + 1) * sz ≤ cap * sz := Nat.mul_le_mul_right sz hc
    have hi1 : (i + 1) * sz = i * sz + sz := Nat.succ_mul _ _
    have hn1 : (n + 1) * sz = n * sz + sz := Nat.succ_mul _ _
    have hi2 : (i + 1) * sz ≤ n * sz := Nat.mul_le_mul_right sz hi
    have hdl : (cs.drop (i * sz)).length = n * sz - i * sz := by rw [List.length_drop, hl]
    obtain ⟨c1, b1, s1, t1⟩ := setCells_block (cs.drop (i * sz)) hbk ((i + 1) * sz) (by omega)
    obtain ⟨c2, b2, s2, t2⟩ := setCells_block vs b1 (i * sz) (by omega)
    have hcl : cur.toList.length = cur.size := by simp
    have hlist := ins_list cur.toList cs vs (i * sz) (n * sz) sz ht hA hv (by omega) c1.toList (by rw [t1, hi1])
    rw [show i * sz + sz = i * sz + vs.length by omega, ← t2] at hlist
    refine ⟨?_, .inr ⟨g, cap, c2, rfl, hg', b2, hc, hm, by omega, ?_⟩⟩
    · simp only [List.length_append, List.length_take, List.length_drop, hl, hv]; omega
    · rw [hn1]; exact hlist

end Go.Proofs.YtbnnobeahliffaaGreatDoor

set_option linter.unusedVariables false
set_option linter.unusedSimpArgs false
namespace Go.Proofs.YtbnnobeahliffaaGreatDoor
open Go.RowKit Go.Lib
namespace Cls

theorem infoQs : (Tryz.prog.info? 36).map (·.size) = some 4 := by kernel_rfl

theorem sizeQ (w : World) : (Go.sizeOf 36).run Tryz.prog w = .ok 4 w := by
  obtain ⟨i0, hi0, hz0, hz1, hz2⟩ := infoQ
  simp [sizeOf, typeInfo, hi0, hz1]

set_option maxRecDepth 100000 in
set_option maxHeartbeats 4000000 in
theorem insert_room (n m i c g vb B : Nat) (cs vs : List Value) (w : World) (hm : m = 1) (hown : w.ownsRow B 36 4 (.slice (some ⟨g, 0, none⟩) n c) n cs) (hi : i < n) (hroom : n + m ≤ c) (hc63 : c ≤ 9223372036854775807) (h1c : ∀ v ∈ cs, v.oneCell' = true)
    (hvl : vs.length = m * 4) (hvs : ∀ j v, vs[j]? = some v → w.cell? ⟨vb, j, none⟩ = some v) (h1v : ∀ v ∈ vs, v.oneCell' = true) (hvb : vb ≠ g) (hsa : w.shape? vb = some (36, 4)) (hfa : ∀ t, w.frozen? ⟨vb, t, none⟩ = false) :
    Calls Tryz.prog 79 #[.slice (some ⟨g, 0, none⟩) n c, .int .i64 (i : Int), .slice (some ⟨vb, 0, none⟩) m 1] w fun e w' =>
      e = .returned (.slice (some ⟨g, 0, none⟩) (n + m) c) ∧ w' = (w.drew.setCells g ((i + m) * 4) (cs.drop (i * 4))).setCells g (i * 4) vs := by
  obtain ⟨hl, ⟨e1, _⟩ | ⟨g', cap', cur, hx, hg', hbk, hnc, hmc, hs, ht⟩⟩ := hown
  · cases e1
  injection hx with a1 a2 a3
  injection a1 with a1
  injection a1 with a1 _ _
  subst a1 a3
  have hcell : ∀ j, w.cell? ⟨g, j, none⟩ = cur[j]? := fun j => by unfold World.cell?; rw [hbk]; rfl
  have hcs : ∀ j v, cs[j]? = some v → w.cell? ⟨g, j, none⟩ = some v := fun j v hj => by
    rw [hcell, ← Array.getElem?_toList]
    rw [← ht, List.getElem?_take] at hj
    split at hj
    · exact hj
    · cases hj
  have hsp : ∀ j, j < (n + m) * 4 → (w.cell? ⟨g, j, none⟩).isSome = true := fun j hj => by
    rw [hcell, Array.getElem?_eq_getElem (by omega)]; rfl
  have hfz : ∀ j, w.frozen? ⟨g, j, none⟩ = false := fun j => by unfold World.frozen?; rw [hbk]; simp
  have hsb : w.shape? g = some (36, cur.size) := by unfold World.shape?; rw [hbk]
  have hkB : cur.size ≠ 0 := by omega
  have hz1 : ¬ ((m : Int) = 0) := by omega
  have hz2 : ¬ ((i : Int) = (n : Int)) := by omega
  have hov : ∀ lb cb, (callFunc 95 #[.slice (some ⟨vb, 0, none⟩) m 1, .slice (some ⟨g, (i + m) * 4, none⟩) lb cb]).run Tryz.prog w = .ok (.value (.bool false)) w := fun lb cb => by
    rw [run_callFunc_extern Tryz.func95 (by kernel_rfl) (by kernel_rfl) (by kernel_rfl) (e := Extern.SlicesOverlaps.overlaps #[23, 23] #[4]) (by kernel_rfl),
      Lib.run_overlaps_apart w 23 4 36 Tryz.underlying23 4 sizeQ ⟨vb, 0, none⟩ ⟨g, (i + m) * 4, none⟩ m 1 lb cb hvb 36 36 4 cur.size hsa hsb hkB (hfa 0) (hfa 4)]
    rfl
  have hdl : (cs.drop (i * 4)).length = (n - i) * 4 := by rw [List.length_drop, hl]; omega
  have hw1 : IntKind.i64.wrap ((i : Int) + (m : Int)) = (i : Int) + (m : Int) := by rw [IntKind.wrap_i64]; omega
  have hb1 : (0 : Int) ≤ (i : Int) + (m : Int) := by omega
  have hin : i ≤ n := by omega
  have htn : ((i : Int) + (m : Int)).toNat = i + m := by omega
  have hb2 : ¬ (c = i + m) := by omega
  have hb3 : (i : Int) ≤ (n : Int) + (m : Int) := by omega
  have hb4 : ¬ (c = i) := by omega
  have hcp1 : ∀ ty dc sc, (Builtin.copy_ #[23, 23] ty #[.slice (some ⟨g, (i + m) * 4, none⟩) (n + m - (i + m)) dc, .slice (some ⟨g, i * 4, none⟩) (n + m - i) sc]).run Tryz.prog w.drew = .ok (goInt ((n - i : Nat) : Int)) (w.drew.setCells g ((i + m) * 4) (cs.drop (i * 4))) := fun ty dc sc =>
    run_copy_cellsK w.drew _ _ ty 36 4 g ((i + m) * 4) (n + m - (i + m)) dc ⟨g, i * 4, none⟩ (n + m - i) sc (n - i) (cs.drop (i * 4)) Tryz.underlying23 infoQs (by simp only [Nat.min_def]; split <;> omega) hdl
      (fun j v hj => by rw [Addr.add_lit]; exact hcs (i * 4 + j) v (by rwa [List.getElem?_drop] at hj))
      (fun j hj => hsp _ (by omega)) (fun j hj => hfz _) (fun v hv => h1c v (List.mem_of_mem_drop hv))
  obtain ⟨W1, hW1⟩ : ∃ W1, W1 = w.drew.setCells g ((i + m) * 4) (cs.drop (i * 4)) := ⟨_, rfl⟩
  have hsp1 : ∀ k, k < (n + m) * 4 → (W1.cell? ⟨g, k, none⟩).isSome = true := fun k hk => by
    rw [hW1]
    exact isSome_setCells g _ ((i + m) * 4) w.drew (fun j hj => hsp _ (by rw [hdl] at hj; omega)) _ (hsp k hk)
  have hcp2 : ∀ (W : World), (∀ x, W.cell? x = W1.cell? x) → (∀ x, W.frozen? x = W1.frozen? x) → ∀ ty dc, (Builtin.copy_ #[23, 23] ty #[.slice (some ⟨g, i * 4, none⟩) (n + m - i) dc, .slice (some ⟨vb, 0, none⟩) m 1]).run Tryz.prog W = .ok (goInt m) (W.setCells g (i * 4) vs) := fun W hWc hWf ty dc =>
    run_copy_cellsK W _ _ ty 36 4 g (i * 4) (n + m - i) dc ⟨vb, 0, none⟩ m 1 m vs Tryz.underlying23 infoQs (by simp only [Nat.min_def]; split <;> omega) hvl
      (fun j v hj => by
        rw [Addr.add_lit, Nat.zero_add, hWc, hW1, World.cell?_setCells_out g _ _ _ _ (fun h _ => absurd h hvb)]
        exact hvs j v hj)
      (fun j hj => by rw [hWc]; exact hsp1 _ (by omega)) (fun j hj => by rw [hWf, hW1, World.frozen?_setCells]; exact hfz _) h1v
  rw [← hW1] at hcp1 ⊢
  have mixed : Tryz.prog.follows .mixedOrders = true := by kernel_rfl
  have HCP1 : Hid _ := hcp1
  have HCP2 : Hid _ := hcp2
  clear hcs hsp hfz hcell hcp1 hcp2 h1c h1v hvs hfa hsp1 hW1 hbk ht hl hvl hdl hm
  go_enter Tryz.func79, Tryz.ntmps79
  go_wp2_with (simp only [hov])
  go_region_law_o (refine step_copy_runI rfl _ _ 23 23 rfl (.slice (some ⟨g, (i + m) * 4, none⟩) (n + m - (i + m)) (c - (i + m))) (.slice (some ⟨g, i * 4, none⟩) (n + m - i) (c - i)) (by simp [Act.eval, Act.put]) (by simp [Act.eval, Act.put]) (HCP1.out 3 (c - (i + m)) (c - i)) ?_)
  have hc2 := HCP2.out W1 (fun _ => rfl) (fun _ => rfl) 3 (c - i)
  go_wp2_with (simp only [hc2])
  go_ret
  exact ⟨rfl, rfl⟩

set_option maxRecDepth 100000 in
set_option maxHeartbeats 4000000 in
theorem insert_grow (n m i c g vb B : Nat) (cs vs : List Value) (w : World) (hm : m = 1) (hown : w.ownsRow B 36 4 (.slice (some ⟨g, 0, none⟩) n c) n cs) (hi : i < n) (hroom : c < n + m) (hn9 : n ≤ 1000000) (h1c : ∀ v ∈ cs, v.oneCell' = true)
    (hvl : vs.length = m * 4) (hvs : ∀ j v, vs[j]? = some v → w.cell? ⟨vb, j, none⟩ = some v) (h1v : ∀ v ∈ vs, v.oneCell' = true) :
    Calls Tryz.prog 79 #[.slice (some ⟨g, 0, none⟩) n c, .int .i64 (i : Int), .slice (some ⟨vb, 0, none⟩) m 1] w fun e w' =>
      ∃ (G : Nat) (ROW : Array Value), n + m ≤ G ∧ G ≤ 9223372036854775807 ∧ ROW.size = G * 4 ∧ ROW.toList.take (i * 4) = cs.take (i * 4) ∧ e = .returned (.slice (some ⟨w.heap.size, 0, none⟩) (n + m) G) ∧
      w' = ((w.alloc (.cells ROW 36)).drew.setCells w.heap.size (i * 4) vs).drew.setCells w.heap.size ((i + m) * 4) (cs.drop (i * 4)) := by
  obtain ⟨i0, hi0, hz0, hzs, hzb⟩ := infoQ
  obtain ⟨hl, ⟨e1, _⟩ | ⟨g', cap', cur, hx, hg', hbk, hnc, hmc, hs, ht⟩⟩ := hown
  · cases e1
  injection hx with a1 a2 a3
  injection a1 with a1
  injection a1 with a1 _ _
  subst a1 a3
  have hcell : ∀ j, w.cell? ⟨g, j, none⟩ = cur[j]? := fun j => by unfold World.cell?; rw [hbk]; rfl
  have hcs : ∀ j v, cs[j]? = some v → w.cell? ⟨g, j, none⟩ = some v := fun j v hj => by
    rw [hcell, ← Array.getElem?_toList]
    rw [← ht, List.getElem?_take] at hj
    split at hj
    · exact hj
    · cases hj
  have hz1 : ¬ ((m : Int) = 0) := by omega
  have hz2 : ¬ ((i : Int) = (n : Int)) := by omega
  have hz3 : (c : Int) < (n : Int) + (m : Int) := by omega
  have hcl := hl
  have hbw : g < w.heap.size := (Array.getElem?_eq_some_iff.1 hbk).1
  have hvw : vb < w.heap.size := World.block_lt_of_cell? w _ (hvs 0 _ (List.getElem?_eq_getElem (by omega)))
  have hkk : (n : Int) + (m : Int) - (i : Int) = ((n + m - i : Nat) : Int) := by omega
  have hik : i + (n + m - i) = n + m := by omega
  have hold : (Builtin.firstCells i0.size i (.slice (some ⟨g, 0, none⟩) i c)).run Tryz.prog w.drew = .ok (cs.take (i * 4)).toArray w.drew := by
    rw [hzs]
    exact run_firstCells_some w.drew 4 i ⟨g, 0, none⟩ i c (cs.take (i * 4)) (by rw [List.length_take]; omega) (fun j v hj => by
      rw [Addr.add_lit, Nat.zero_add]
      rw [List.getElem?_take] at hj
      split at hj
      · exact hcs j v hj
      · cases hj)
  have hrz : ∀ ty, (Builtin.append_ #[23, 3] ty #[.slice (some ⟨g, 0, none⟩) i c, .int .i64 ((n : Int) + (m : Int) - (i : Int))]).run Tryz.prog w =
      .ok (.slice (some ⟨w.heap.size, 0, none⟩) (n + m) (grownCap w (n + m) c 36)) (w.drew.alloc (.cells ((cs.take (i * 4)).toArray ++ Builtin.zeroCells (Value.agg #[.int .i64 0, .int .i64 0, .slice none 0 0, .int .i64 0]).cells (n + m - i) ++ Builtin.zeroCells (Value.agg #[.int .i64 0, .int .i64 0, .slice none 0 0, .int .i64 0]).cells (grownCap w (n + m) c 36 - (n + m))) 36)) := fun ty => by
    have h := Lib.run_append_grow_zeros w 23 3 ty 36 i0 _ .i64 .i64 Tryz.underlying23 Tryz.underlying3 hi0 hz0 (some ⟨g, 0, none⟩) i c (cs.take (i * 4)) hold (n + m - i) (by omega) (by omega) (by omega) (by omega) (by rw [hzb]; omega) (growslice_fits (by omega) (by rw [hzb]; omega))
    rw [hik] at h
    rw [hkk]
    exact h
  obtain ⟨G, hG⟩ : ∃ G, G = grownCap w (n + m) c 36 := ⟨_, rfl⟩
  obtain ⟨ROW, hROW⟩ : ∃ ROW : Array Value, ROW = (cs.take (i * 4)).toArray ++ Builtin.zeroCells (Value.agg #[.int .i64 0, .int .i64 0, .slice none 0 0, .int .i64 0]).cells (n + m - i) ++ Builtin.zeroCells (Value.agg #[.int .i64 0, .int .i64 0, .slice none 0 0, .int .i64 0]).cells (G - (n + m)) := ⟨_, rfl⟩
  rw [← hG] at hrz
  rw [← hROW] at hrz
  have hGn : n + m ≤ G := by rw [hG]; exact grownCap_ge w _ _ _
  have hG63 : G ≤ 9223372036854775807 := by
    have := grownCap_le_maxLen w (n + m) c 36 (by unfold maxLen; omega)
    rw [← hG] at this
    unfold maxLen at this
    omega
  have hRs : ROW.size = G * 4 := by
    rw [hROW]
    simp [Builtin.zeroCells, Value.cells, List.length_take, hcl]
    omega
  have hRt : ROW.toList.take (i * 4) = cs.take (i * 4) := by
    rw [hROW]
    simp only [Array.toList_append, List.append_assoc]
    exact List.take_left' (by simp only [List.length_take, hcl]; omega)
  obtain ⟨W1, hW1⟩ : ∃ W1, W1 = w.drew.alloc (.cells ROW 36) := ⟨_, rfl⟩
  rw [← hW1] at hrz
  have hN : ∀ j, j < (n + m) * 4 → (W1.cell? ⟨w.heap.size, j, none⟩).isSome = true := fun j hj => by
    rw [hW1, World.cell?_alloc_at (w := w.drew) ROW _ w.heap.size j rfl, Array.getElem?_eq_getElem (by omega)]; rfl
  have hNf : ∀ j, W1.frozen? ⟨w.heap.size, j, none⟩ = false := fun j => by rw [hW1]; exact World.frozen?_alloc_at (w := w.drew) ROW _ w.heap.size j rfl
  have hOb : ∀ j v, w.cell? ⟨g, j, none⟩ = some v → W1.cell? ⟨g, j, none⟩ = some v := fun j v h => by rw [hW1, World.cell?_alloc_past (w := w.drew) _ g j hbw]; exact h
  have hOv : ∀ j v, w.cell? ⟨vb, j, none⟩ = some v → W1.cell? ⟨vb, j, none⟩ = some v := fun j v h => by rw [hW1, World.cell?_alloc_past (w := w.drew) _ vb j hvw]; exact h
  have hcpA : ∀ (W : World), (∀ x, W.cell? x = W1.cell? x) → (∀ x, W.frozen? x = W1.frozen? x) → ∀ ty dc, (Builtin.copy_ #[23, 23] ty #[.slice (some ⟨w.heap.size, i * 4, none⟩) (n + m - i) dc, .slice (some ⟨vb, 0, none⟩) m 1]).run Tryz.prog W = .ok (goInt m) (W.setCells w.heap.size (i * 4) vs) := fun W hWc hWf ty dc =>
    run_copy_cellsK W _ _ ty 36 4 w.heap.size (i * 4) (n + m - i) dc ⟨vb, 0, none⟩ m 1 m vs Tryz.underlying23 infoQs (by simp only [Nat.min_def]; split <;> omega) hvl
      (fun j v hj => by rw [Addr.add_lit, Nat.zero_add, hWc]; exact hOv _ v (hvs j v hj))
      (fun j hj => by rw [hWc]; exact hN _ (by omega)) (fun j hj => by rw [hWf]; exact hNf _) h1v
  have hGi : ¬ (G = i) := by omega
  have hGim : ¬ (G = i + m) := by omega
  have hci : ¬ (c = i) := by omega
  have hbN : g ≠ w.heap.size := by omega
  have hdl : (cs.drop (i * 4)).length = (n - i) * 4 := by rw [List.length_drop, hcl]; omega
  have hcpB : ∀ (W : World), (∀ x, W.cell? x = (W1.setCells w.heap.size (i * 4) vs).cell? x) → (∀ x, W.frozen? x = (W1.setCells w.heap.size (i * 4) vs).frozen? x) → ∀ ty dc sc, (Builtin.copy_ #[23, 23] ty #[.slice (some ⟨w.heap.size, (i + m) * 4, none⟩) (n + m - (i + m)) dc, .slice (some ⟨g, i * 4, none⟩) (n - i) sc]).run Tryz.prog W = .ok (goInt ((n - i : Nat) : Int)) (W.setCells w.heap.size ((i + m) * 4) (cs.drop (i * 4))) := fun W hWc hWf ty dc sc =>
    run_copy_cellsK W _ _ ty 36 4 w.heap.size ((i + m) * 4) (n + m - (i + m)) dc ⟨g, i * 4, none⟩ (n - i) sc (n - i) (cs.drop (i * 4)) Tryz.underlying23 infoQs (by simp only [Nat.min_def]; split <;> omega) hdl
      (fun j v hj => by
        rw [Addr.add_lit, hWc, World.cell?_setCells_out _ _ _ _ _ (fun h _ => absurd h hbN)]
        exact hOb _ v (hcs (i * 4 + j) v (by rwa [List.getElem?_drop] at hj)))
      (fun j hj => by rw [hWc]; exact isSome_setCells w.heap.size _ (i * 4) W1 (fun t ht => hN _ (by omega)) _ (hN _ (by rw [hdl] at hj; omega)))
      (fun j hj => by rw [hWf, World.frozen?_setCells]; exact hNf _) (fun v hv => h1c v (List.mem_of_mem_drop hv))
  have mixed : Tryz.prog.follows .mixedOrders = true := by kernel_rfl
  have hw1 : IntKind.i64.wrap ((i : Int) + (m : Int)) = (i : Int) + (m : Int) := by rw [IntKind.wrap_i64]; omega
  have hb1 : (0 : Int) ≤ (i : Int) + (m : Int) := by omega
  have hin : i ≤ n := by omega
  have htn : ((i : Int) + (m : Int)).toNat = i + m := by omega
  have hb3 : (i : Int) ≤ (n : Int) := by omega
  have HCA : Hid _ := hcpA
  have HCB : Hid _ := hcpB
  have HFIN : Hid (n + m ≤ G ∧ G ≤ 9223372036854775807 ∧ ROW.size = G * 4 ∧ ROW.toList.take (i * 4) = cs.take (i * 4)) := ⟨hGn, hG63, hRs, hRt⟩
  have HRZ : Hid _ := hrz
  subst hW1
  clear hkk hik hold hROW hG hRt hcs hcell hcpA hcpB h1c h1v hvs hbk ht hl hvl hdl hrz hN hNf hOb hOv hcl hm hz0 hi0 hzs hzb
  go_enter Tryz.func79, Tryz.ntmps79
  have hcA := HCA.out ((w.alloc (.cells ROW 36)).drew) (fun _ => rfl) (fun _ => rfl) 3 (G - i)
  have HF1 : Hid (∀ x, (((w.alloc (.cells ROW 36)).drew.setCells w.heap.size (i * 4) vs).drew).cell? x = ((w.drew.alloc (.cells ROW 36)).setCells w.heap.size (i * 4) vs).cell? x) := fun x => rfl
  have HF2 : Hid (∀ x, (((w.alloc (.cells ROW 36)).drew.setCells w.heap.size (i * 4) vs).drew).frozen? x = ((w.drew.alloc (.cells ROW 36)).setCells w.heap.size (i * 4) vs).frozen? x) := fun x => rfl
  go_wp2_with (first | (at_builtin; refine Lib.wpList_append_run _ rfl _ _ _ _ rfl _ _ rfl rfl _ _ (HRZ.out _) ?_) | (simp only [hcA]))
  go_region_law_o (refine step_copy_runI rfl _ _ 23 23 rfl (.slice (some ⟨w.heap.size, (i + m) * 4, none⟩) (n + m - (i + m)) (G - (i + m))) (.slice (some ⟨g, i * 4, none⟩) (n - i) (c - i)) (by simp [Act.eval, Act.put]) (by simp [Act.eval, Act.put]) (HCB.out _ HF1.out HF2.out 3 (G - (i + m)) (c - i)) ?_)
  go_wp2_with fail
  go_ret
  exact ⟨G, ROW, HFIN.out.1, HFIN.out.2.1, HFIN.out.2.2.1, HFIN.out.2.2.2, rfl, rfl⟩

theorem fr_setCells {A : Nat → Prop} {w : World} (b : Nat) (hb : ¬ A b) : ∀ (vs : List Value) (o : Nat) (v : World), Fr A w v → Fr A w (v.setCells b o vs)
  | [], _, _, h => h
  | u :: r, o, v, h => by
    rw [World.setCells]
    exact fr_setCells b hb r (o + 1) _ (h.setCell hb u)

/-- A node is put ahead of another one. -/
theorem insert_any (n i c g vb B : Nat) (cs vs : List Value) (w : World) (hown : w.ownsRow B 36 4 (.slice (some ⟨g, 0, none⟩) n c) n cs) (hi : i < n) (hn9 : n ≤ 1000000) (hc63 : c ≤ 9223372036854775807) (hBs : B ≤ w.heap.size) (h1c : ∀ v ∈ cs, v.oneCell' = true)
    (hvl : vs.length = 4) (hvs : ∀ j v, vs[j]? = some v → w.cell? ⟨vb, j, none⟩ = some v) (h1v : ∀ v ∈ vs, v.oneCell' = true) (hvb : vb ≠ g) (hsa : w.shape? vb = some (36, 4)) (hfa : ∀ t, w.frozen? ⟨vb, t, none⟩ = false) :
    Calls Tryz.prog 79 #[.slice (some ⟨g, 0, none⟩) n c, .int .i64 (i : Int), .slice (some ⟨vb, 0, none⟩) 1 1] w fun e w' =>
      ∃ g' c', e = .returned (.slice (some ⟨g', 0, none⟩) (n + 1) c') ∧ w'.ownsRow B 36 4 (.slice (some ⟨g', 0, none⟩) (n + 1) c') (n + 1) (cs.take (i * 4) ++ vs ++ cs.drop (i * 4)) ∧ Fr (fun k => k ≠ g) w w' := by
  have hcl := hown.1
  by_cases hroom : n + 1 ≤ c
  · refine Calls.mono (insert_room n 1 i c g vb B cs vs w rfl hown hi hroom hc63 h1c hvl hvs h1v hvb hsa hfa) ?_
    rintro e w' ⟨rfl, rfl⟩
    refine ⟨g, c, rfl, ?_, fr_setCells g (by simp) _ _ _ (fr_setCells g (by simp) _ _ _ ((Fr.refl _ w).drew))⟩
    exact own_ins (W := w.drew) hown hroom i hi vs hvl
  · refine Calls.mono (insert_grow n 1 i c g vb B cs vs w rfl hown hi (by omega) hn9 h1c hvl hvs h1v) ?_
    rintro e w' ⟨G, ROW, hG, hG2, hRs, hRt, rfl, rfl⟩
    have hb0 : (w.alloc (.cells ROW 36)).heap[w.heap.size]? = some (.cells ROW 36) := World.alloc_heap_new w _
    have hg : g < w.heap.size := by
      obtain ⟨_, ⟨e1, _⟩ | ⟨g', cap', cur, hx, hg', hbk, _⟩⟩ := hown
      · cases e1
      · injection hx with a1 a2 a3
        injection a1 with a1
        injection a1 with a1 _ _
        subst a1
        exact (Array.getElem?_eq_some_iff.1 hbk).1
    refine ⟨w.heap.size, G, rfl, ?_, ?_⟩
    · have hdl : (cs.drop (i * 4)).length = n * 4 - i * 4 := by rw [List.length_drop, hcl]
      obtain ⟨c1, b1, s1, t1⟩ := setCells_block (W := (w.alloc (.cells ROW 36)).drew) vs hb0 (i * 4) (by omega)
      obtain ⟨c2, b2, s2, t2⟩ := setCells_block (W := ((w.alloc (.cells ROW 36)).drew.setCells w.heap.size (i * 4) vs).drew) (cs.drop (i * 4)) b1 ((i + 1) * 4) (by omega)
      refine ⟨?_, .inr ⟨w.heap.size, G, c2, rfl, hBs, b2, hG, hG2, by omega, ?_⟩⟩
      · simp only [List.length_append, List.length_take, List.length_drop, hcl, hvl]; omega
      · have e1 : c1.toList.take ((i + 1) * 4) = cs.take (i * 4) ++ vs := by
          rw [t1, hRt]
          exact List.take_left' (by simp only [List.length_append, List.length_take, hcl, hvl]; omega)
        rw [t2, e1]
        exact List.take_left' (by simp only [List.length_append, List.length_take, List.length_drop, hcl, hvl]; omega)
    · have f1 : Fr (fun k => k ≠ g) w (w.alloc (.cells ROW 36)) := (Fr.refl _ w).alloc _
      have fb : ∀ (vs : List Value) (o : Nat) (v : World), Fr (fun k => k ≠ w.heap.size) w v → Fr (fun k => k ≠ w.heap.size) w (v.setCells w.heap.size o vs) := fun vs o v h => fr_setCells _ (by simp) vs o v h
      have f2 := fb (cs.drop (i * 4)) ((i + 1) * 4) _ (fb vs (i * 4) _ ((Fr.refl _ w).alloc (.cells ROW 36)).drew).drew
      exact f2.mono (fun k hk _ => by omega)

end Cls

end Go.Proofs.YtbnnobeahliffaaGreatDoor

set_option linter.unusedVariables false
namespace Go.Proofs.YtbnnobeahliffaaGreatDoor
open Go.RowKit
namespace Cls

set_option maxRecDepth 100000 in
set_option maxHeartbeats 4000000 in
theorem qwritten_any (x : Tv) (T : List Nat) (hT : prI x.i = some T) (w : World) (hx : x.ok w) (hB : TabB w) (hX : TabX w) :
    Calls Tryz.prog 49 #[x.val] w fun e w' => e = .returned (.string (tbs T)) ∧ Below w.heap.size w w' := by
  obtain ⟨⟨xk, xa, xn, xp⟩, xo, xc⟩ := x
  have CP : Hid (∀ v : World, Below w.heap.size w v → Calls Tryz.prog 72 #[.agg #[.int .i64 xk, .int .i64 xa, .int .i64 xn, .slice xo xp.length xc]] v fun e w' => e = .returned (.tuple #[.string (tbs T), .bool true]) ∧ Below v.heap.size v w') := fun v hv => by
    have h := print_any ⟨⟨xk, xa, xn, xp⟩, xo, xc⟩ v (hx.grow hv) (hB.grow hv) (hX.grow hv)
    unfold Tv.val at h
    rw [hT] at h
    exact h
  unfold Tv.val
  simp only
  generalize xp.length = xl at *
  generalize tbs T = t at *
  obtain ⟨w1, e1⟩ : ∃ w1, w1 = w.alloc (.cells #[.int .i64 xk, .int .i64 xa, .int .i64 xn, .slice xo xl xc] 76) := ⟨_, rfl⟩
  have B1 : Hid (Below w.heap.size w w1) := by show Below _ _ _; rw [e1]; exact al_below _ _
  obtain ⟨a0, a1, a2, a3⟩ : K4 w1 w.heap.size (.int .i64 xk) (.int .i64 xa) (.int .i64 xn) (.slice xo xl xc) := by rw [e1]; exact k4_new _ _ _ _ _ _
  have E1 : Hid _ := e1
  clear e1 hT hx hB hX
  go_enter Tryz.func49, Tryz.ntmps49
  go_wp2_with (first | rw [← E1.out])
  refine Calls.mono (CP.out w1 B1.out) ?_; rintro e w2 ⟨rfl, b2⟩
  have B2 : Hid (Below w.heap.size w w2) := bgrow' B1.out b2
  clear b2 CP B1 E1 a0 a1 a2 a3
  go_wp2_with fail
  go_ret
  exact ⟨rfl, B2.out⟩

set_option maxRecDepth 100000 in
set_option maxHeartbeats 4000000 in
theorem between_any (k : Int) (c : Nat) (hc : prI ⟨k, 0, 0, []⟩ = some [c]) (w : World) (hB : TabB w) (hX : TabX w) :
    Calls Tryz.prog 48 #[.int .i64 k] w fun e w' => e = .returned (.string (tbs [32, c, 32])) ∧ Below w.heap.size w w' := by
  have CW : Hid (Calls Tryz.prog 49 #[.agg #[.int .i64 k, .int .i64 0, .int .i64 0, .slice none 0 0]] w fun e w' => e = .returned (.string (tbs [c])) ∧ Below w.heap.size w w') :=
    qwritten_any ⟨⟨k, 0, 0, []⟩, none, 0⟩ [c] hc w ⟨by show (0 : Nat) ≤ _; omega, fun h => by simp at h⟩ hB hX
  have AX1 := add_tbq [32] [c] (by simp)
  have AX2 := add_tbq [32, c] [32] (by simp)
  rw [show tbs [32] = (⟨#[32]⟩ : ByteArray) from rfl] at AX1 AX2
  rw [show [32] ++ [c] = [32, c] from rfl] at AX1
  rw [show [32, c] ++ [32] = [32, c, 32] from rfl] at AX2
  generalize tbs [32, c, 32] = t2 at *
  generalize tbs [32, c] = t1 at *
  generalize tbs [c] = t at *
  clear hc hB hX
  go_enter Tryz.func48, Tryz.ntmps48
  go_wp2_with fail
  refine Calls.mono CW.out ?_; rintro e w2 ⟨rfl, b2⟩
  have B2 : Hid (Below w.heap.size w w2) := b2
  clear b2 CW
  go_wp2_with fail
  go_ret
  exact ⟨rfl, B2.out⟩

/-- Two cells of a block. -/
structure K2 (w : World) (g : Nat) (v0 v1 : Value) : Prop where
  c0 : w.cell? ⟨g, 0, none⟩ = some v0
  c1 : w.cell? ⟨g, 1, none⟩ = some v1

theorem k2_new (w : World) (v0 v1 : Value) (T : TypeId) : K2 (w.alloc (.cells #[v0, v1] T)) w.heap.size v0 v1 := by
  have hb : (w.alloc (.cells #[v0, v1] T)).heap[w.heap.size]? = some (.cells #[v0, v1] T) := World.alloc_heap_new w _
  constructor
  all_goals
    unfold World.cell?
    rw [hb]
    rfl

theorem K2.keep {v v' : World} {g : Nat} {v0 v1 : Value} (h : K2 v g v0 v1) (b : Below v.heap.size v v') : K2 v' g v0 v1 := by
  have hi : g < v.heap.size := World.block_lt_of_cell? v _ h.c0
  have c := fun (t : Nat) => b.cell (p := ⟨g, t, none⟩) hi
  exact ⟨(c 0).trans h.c0, (c 1).trans h.c1⟩

/-- A leaf's text. -/
def lft (p : List (Nat → Bool)) (k : Nat) (T : List Nat) : List Nat := T ++ (if 0 < k then 126 :: dgs k else [])

set_option maxRecDepth 100000 in
set_option maxHeartbeats 4000000 in
theorem wleaf_any (p : List (Nat → Bool)) (ao : Option Addr) (c k : Nat) (hk : k ≤ 64) (T : List Nat) (hT : prt ⟨8, 0, 0, p⟩ = some T) (w : World) (hl : Lf w ao p.length (at' p)) (hB : TabB w) (hX : TabX w) :
    Calls Tryz.prog 47 #[.agg #[.slice ao p.length c, .int .i64 (k : Int)]] w fun e w' => e = .returned (.string (tbs (lft p k T))) ∧ Below w.heap.size w w' := by
  have CW : Hid (∀ v : World, Below w.heap.size w v → Calls Tryz.prog 49 #[.agg #[.int .i64 8, .int .i64 0, .int .i64 0, .slice ao p.length c]] v fun e w' => e = .returned (.string (tbs T)) ∧ Below v.heap.size v w') := fun v hv =>
    qwritten_any ⟨⟨8, 0, 0, p⟩, ao, c⟩ T (by show prI _ = _; rw [show prI ⟨8, 0, 0, p⟩ = prt ⟨8, 0, 0, p⟩ from rfl, hT]) v (hl.grow hv) (hB.grow hv) (hX.grow hv)
  have CF : Hid (∀ v : World, Below w.heap.size w v → Calls Tryz.prog 49 #[.agg #[.int .i64 7, .int .i64 0, .int .i64 (k : Int), .slice none 0 0]] v fun e w' => e = .returned (.string (tbs (126 :: dgs k))) ∧ Below v.heap.size v w') := fun v hv =>
    qwritten_any ⟨⟨7, 0, (k : Int), []⟩, none, 0⟩ (126 :: dgs k) (by show prI _ = _; unfold prI; rw [if_neg (by simp; omega)]; exact prt_fuzz (by simp; omega)) v ⟨by show (0 : Nat) ≤ _; omega, fun h => by simp at h⟩ (hB.grow hv) (hX.grow hv)
  have hT9 := prt_le hT
  obtain ⟨w1, e1⟩ : ∃ w1, w1 = w.alloc (.cells #[.slice ao p.length c, .int .i64 (k : Int)] 34) := ⟨_, rfl⟩
  have B1 : Hid (Below w.heap.size w w1) := by show Below _ _ _; rw [e1]; exact al_below _ _
  obtain ⟨a0, a1⟩ : K2 w1 w.heap.size (.slice ao p.length c) (.int .i64 (k : Int)) := by rw [e1]; exact k2_new _ _ _ _
  have KX1 : Hid (K2 w1 w.heap.size (.slice ao p.length c) (.int .i64 (k : Int))) := ⟨a0, a1⟩
  have E1 : Hid _ := e1
  have hl9 := hl.small
  generalize p.length = pl at *
  clear e1 hl hB hX
  unfold lft
  by_cases h0 : k = 0
  · subst h0
    rw [if_neg (by omega), List.append_nil]
    generalize tbs T = t at *
    clear CF
    have E1 : Hid (w1 = w.alloc (.cells #[.slice ao pl c, .int .i64 0] 34)) := E1
    have KX1 : Hid (K2 w1 w.heap.size (.slice ao pl c) (.int .i64 0)) := KX1
    clear a0 a1
    obtain ⟨a0, a1⟩ := KX1.out
    go_enter Tryz.func47, Tryz.ntmps47
    go_wp2_with (first | rw [← E1.out])
    refine Calls.mono (CW.out w1 B1.out) ?_; rintro e w2 ⟨rfl, b2⟩
    have B2 : Hid (Below w.heap.size w w2) := bgrow' B1.out b2
    clear a0 a1
    obtain ⟨a0, a1⟩ := KX1.out.keep b2
    clear b2 CW B1 E1 KX1
    go_wp2_with fail
    go_ret
    exact ⟨rfl, B2.out⟩
  · rw [if_pos (by omega)]
    have h0I : (((k : Nat) : Int) != 0) = true := by simpa using (show (k : Int) ≠ 0 by omega)
    have hd7 := dgs_le7 (show k ≤ 1000000 by omega)
    have AD := add_tbq T (126 :: dgs k) (by simp; omega)
    generalize tbs (T ++ 126 :: dgs k) = t3 at *
    generalize tbs (126 :: dgs k) = t2 at *
    generalize tbs T = t1 at *
    go_enter Tryz.func47, Tryz.ntmps47
    go_wp2_with (first | rw [← E1.out])
    refine Calls.mono (CW.out w1 B1.out) ?_; rintro e w2 ⟨rfl, b2⟩
    have B2 : Hid (Below w.heap.size w w2) := bgrow' B1.out b2
    clear a0 a1
    obtain ⟨a0, a1⟩ := KX1.out.keep b2
    clear b2 CW B1 E1 KX1
    go_wp2_with fail
    refine Calls.mono (CF.out w2 B2.out) ?_; rintro e w3 ⟨rfl, b3⟩
    have B3 : Hid (Below w.heap.size w w3) := bgrow' B2.out b3
    clear b3 CF B2 a0 a1
    go_wp2_with fail
    go_ret
    exact ⟨rfl, B3.out⟩

/-- A row of integers in memory. -/
structure Irw (w : World) (bo : Option Addr) (T : List Int) : Prop where
  small : T.length ≤ 1000
  lies : 1 ≤ T.length → ∃ b o, bo = some ⟨b, o, none⟩ ∧ b < w.heap.size ∧ ∀ t, (h : t < T.length) → w.cell? ⟨b, o + t, none⟩ = some (.int .i64 T[t])

theorem Irw.kept {A : Nat → Prop} {w w' : World} {bo : Option Addr} {T : List Int} (h : Irw w bo T) (hb : Fr A w w') (hA : ∀ b o, bo = some ⟨b, o, none⟩ → 1 ≤ T.length → A b) : Irw w' bo T :=
  ⟨h.small, fun hn => by
    obtain ⟨b, o, e, hlt, hc⟩ := h.lies hn
    exact ⟨b, o, e, Nat.lt_of_lt_of_le hlt hb.size, fun t ht => (hb.cell (p := ⟨b, o + t, none⟩) (hA b o e hn) hlt).trans (hc t ht)⟩⟩

theorem Irw.grow {w w' : World} {bo : Option Addr} {T : List Int} (h : Irw w bo T) (hb : Below w.heap.size w w') : Irw w' bo T := h.kept (Fr.of_below (A := fun _ => True) hb (fun k hk _ => hk)) (fun _ _ _ _ => trivial)

set_option maxRecDepth 100000 in
set_option maxHeartbeats 4000000 in
theorem iindex_any (T : List Int) (n cap : Nat) (bo : Option Addr) (x : Int) (hn : T.length = n) (w : World) (hI : Irw w bo T) :
    Calls Tryz.prog 73 #[.slice bo n cap, .int .i64 x] w fun e w' => (∃ r : Int, e = .returned (.int .i64 r) ∧ decide (0 ≤ r) = T.any (fun y => y == x)) ∧ Below w.heap.size w w' := by
  have hn2 : n ≤ 1000 := by have := hI.small; omega
  have HL : Hid _ := hI
  have HN : Hid (T.length = n) := hn
  have HA : Hid (∀ i, (h : i < T.length) → (x == T[i]) = true → T.any (fun y => y == x) = true) := fun i h hf => by
    rw [List.any_eq_true]
    exact ⟨T[i], List.getElem_mem h, by rw [beq_iff_eq] at hf ⊢; exact hf.symm⟩
  have HB0 : Hid ((∀ i, (h : i < T.length) → (x == T[i]) = false) → T.any (fun y => y == x) = false) := fun h => by
    rw [List.any_eq_false]
    intro y hy
    obtain ⟨i, hi, rfl⟩ := List.mem_iff_getElem.1 hy
    have := h i hi
    rw [beq_eq_false_iff_ne] at this
    rw [beq_iff_eq]
    exact fun e => this e.symm
  generalize T.any (fun y => y == x) = res at *
  clear hI hn
  go_enter Tryz.func73, Tryz.ntmps73
  go_wp2_with fail
  go_loopw [8] (fun vi wr => Below w.heap.size w wr ∧ ∃ i : Nat, i ≤ n ∧ vi = .int .i64 (i : Int) ∧ ∀ t, t < i → ∀ h : t < T.length, (x == T[t]) = false) (fun vi _ => n - (intOf vi).toNat)
  case atStart => exact ⟨Below.refl _ _, 0, Nat.zero_le _, rfl, fun t ht => by omega⟩
  case round =>
    obtain ⟨hbel, i, hi, rfl, hall⟩ := hrel
    have HB : Hid _ := hbel
    have HL2 : Hid _ := hall
    clear hbel hall
    by_cases hin : i < n
    · have hiI : (i : Int) < (n : Int) := by omega
      have h1 : i < T.length := by rw [HN.out]; exact hin
      obtain ⟨b, o, rfl, hb, hC⟩ := (HL.out.grow HB.out).lies (by omega)
      have c0 := hC i h1
      have HA2 : Hid _ := HA.out i h1
      have HS : Hid ((x == T[i]) = false → ∀ t, t < i + 1 → ∀ h : t < T.length, (x == T[t]) = false) := fun hf t ht h => by
        by_cases e : t = i
        · subst e; exact hf
        · exact HL2.out t (by omega) h
      clear hC
      generalize T[i] = y at *
      cases hb : (x == y) with
      | true =>
        go_wp2_with fail
        go_ret
        exact ⟨⟨_, rfl, by rw [HA2.out hb]; simp⟩, HB.out⟩
      | false =>
        go_wp2_with fail
        go_roundw
        case rel => exact ⟨HB.out, i + 1, by omega, by go_num, HS.out hb⟩
        case measure => simp [intOf]; omega
    · obtain rfl : i = n := by omega
      have HE : Hid (res = false) := HB0.out (fun t ht => HL2.out t (by have := HN.out; omega) ht)
      go_wp2_with fail
      go_ret
      exact ⟨⟨_, rfl, by rw [HE.out]; decide⟩, HB.out⟩

set_option maxRecDepth 100000 in
set_option maxHeartbeats 4000000 in
theorem icontains_any (T : List Int) (n cap : Nat) (bo : Option Addr) (x : Int) (hn : T.length = n) (w : World) (hI : Irw w bo T) :
    Calls Tryz.prog 50 #[.slice bo n cap, .int .i64 x] w fun e w' => e = .returned (.bool (T.any (fun y => y == x))) ∧ Below w.heap.size w w' := by
  have CE : Hid _ := iindex_any T n cap bo x hn w hI
  generalize T.any (fun y => y == x) = res at *
  clear hI hn
  go_enter Tryz.func50, Tryz.ntmps50
  go_wp2_with fail
  refine Calls.mono CE.out ?_; rintro e w2 ⟨⟨r, rfl, hr⟩, b2⟩
  have B2 : Hid (Below w.heap.size w w2) := b2
  have HR : Hid _ := hr
  clear b2 CE hr
  go_wp2_with fail
  go_ret
  exact ⟨by rw [← HR.out]; rfl, B2.out⟩

end Cls

end Go.Proofs.YtbnnobeahliffaaGreatDoor

set_option linter.unusedVariables false
namespace Go.Proofs.YtbnnobeahliffaaGreatDoor
open Go.RowKit
namespace Cls

/-- A reader's five cells. -/
structure R5 (w : World) (g : Nat) (u0 u1 : Value) : Prop where
  c0 : w.cell? ⟨g, 0, none⟩ = some u0
  c1 : w.cell? ⟨g, 1, none⟩ = some u1
  c2 : w.cell? ⟨g, 2, none⟩ = some (.func (.func 36) #[.pointer (some ⟨g, 0, none⟩)] #[])
  c3 : w.cell? ⟨g, 3, none⟩ = some (.func (.func 37) #[.pointer (some ⟨g, 0, none⟩)] #[])
  c4 : w.cell? ⟨g, 4, none⟩ = some (.func (.func 38) #[.pointer (some ⟨g, 0, none⟩)] #[])
  f : ∀ t, w.frozen? ⟨g, t, none⟩ = false
  lt : g < w.heap.size

theorem R5.kept {A : Nat → Prop} {w w' : World} {g : Nat} {u0 u1 : Value} (h : R5 w g u0 u1) (b : Fr A w w') (hA : A g) : R5 w' g u0 u1 := by
  have C := fun (t : Nat) => b.cell (p := ⟨g, t, none⟩) hA h.lt
  exact ⟨(C 0).trans h.c0, (C 1).trans h.c1, (C 2).trans h.c2, (C 3).trans h.c3, (C 4).trans h.c4, fun t => (b.frozen (p := ⟨g, t, none⟩) hA h.lt).trans (h.f t), Nat.lt_of_lt_of_le h.lt b.size⟩

theorem R5.grow {w w' : World} {g : Nat} {u0 u1 : Value} (h : R5 w g u0 u1) (b : Below w.heap.size w w') : R5 w' g u0 u1 := h.kept (Fr.of_below (A := fun _ => True) b (fun k hk _ => hk)) trivial

theorem R5.put0 {w : World} {g : Nat} {u0 u1 : Value} (h : R5 w g u0 u1) (u : Value) : R5 (w.setCell ⟨g, 0, none⟩ u) g u u1 := by
  have hw : Wrote (fun b t => b = g ∧ t = 0) w (w.setCell ⟨g, 0, none⟩ u) := (Wrote.refl _ w).setCell ⟨rfl, rfl⟩ _
  exact ⟨World.cell?_setCell_same _ _ _ h.c0, (hw.cell _ _ (fun e => by omega)).trans h.c1, (hw.cell _ _ (fun e => by omega)).trans h.c2, (hw.cell _ _ (fun e => by omega)).trans h.c3, (hw.cell _ _ (fun e => by omega)).trans h.c4, fun t => by rw [hw.frozen]; exact h.f t, by rw [hw.size]; exact h.lt⟩

theorem R5.put1 {w : World} {g : Nat} {u0 u1 : Value} (h : R5 w g u0 u1) (u : Value) : R5 (w.setCell ⟨g, 1, none⟩ u) g u0 u := by
  have hw : Wrote (fun b t => b = g ∧ t = 1) w (w.setCell ⟨g, 1, none⟩ u) := (Wrote.refl _ w).setCell ⟨rfl, rfl⟩ _
  exact ⟨(hw.cell _ _ (fun e => by omega)).trans h.c0, World.cell?_setCell_same _ _ _ h.c1, (hw.cell _ _ (fun e => by omega)).trans h.c2, (hw.cell _ _ (fun e => by omega)).trans h.c3, (hw.cell _ _ (fun e => by omega)).trans h.c4, fun t => by rw [hw.frozen]; exact h.f t, by rw [hw.size]; exact h.lt⟩

/-- A reader, made in the world w0: the tokens left; what its nodes' cell holds. -/
structure Sr (w0 w : World) (Y : List Tk) (u1 : Value) : Prop where
  bel : Below w0.heap.size w0 w
  box : ∃ so cap, R5 w w0.heap.size (.slice so Y.length cap) u1 ∧ Y.length ≤ cap ∧ cap ≤ 9223372036854775807 ∧ Ty w0 so Y

theorem Sr.lt {w0 w : World} {Y : List Tk} {u1 : Value} (h : Sr w0 w Y u1) : w0.heap.size < w.heap.size := by
  obtain ⟨so, cap, r, _⟩ := h.box
  exact r.lt

theorem Sr.kept {A : Nat → Prop} {w0 w w' : World} {Y : List Tk} {u1 : Value} (h : Sr w0 w Y u1) (b : Fr A w w') (hA : ∀ k, k ≤ w0.heap.size → A k) : Sr w0 w' Y u1 := by
  obtain ⟨so, cap, r, h1⟩ := h.box
  exact ⟨h.bel.trans (b.below (by have := h.lt; omega) (fun k hk => hA k (by omega))), so, cap, r.kept b (hA _ (Nat.le_refl _)), h1⟩

theorem Sr.grow {w0 w w' : World} {Y : List Tk} {u1 : Value} (h : Sr w0 w Y u1) (b : Below w.heap.size w w') : Sr w0 w' Y u1 := h.kept (Fr.of_below (A := fun _ => True) b (fun k hk _ => hk)) (fun _ _ => trivial)

theorem Sr.put1 {w0 w : World} {Y : List Tk} {u1 : Value} (h : Sr w0 w Y u1) (u : Value) : Sr w0 (w.setCell ⟨w0.heap.size, 1, none⟩ u) Y u := by
  obtain ⟨so, cap, r, h1⟩ := h.box
  exact ⟨h.bel.setCell (p := ⟨w0.heap.size, 1, none⟩) (Nat.le_refl _) u, so, cap, r.put1 u, h1⟩

/-- The first token's four numbers, or nothing. -/
def nti : List Tk → Ti
  | [] => ⟨0, 0, 0, []⟩
  | t :: _ => t.i

theorem nti_kind (Y : List Tk) : (nti Y).kind = (knq Y : Int) := by cases Y <;> rfl

/-- Results: a token in a box. -/
theorem results_tok1 {fn : Func} {p : Tmp} (h : fn.results = #[.cell p 76]) (tmps : Array Value) (v : World) (b : Nat) {v0 v1 v2 v3 : Value} (hp : tmps.getD p undef = .pointer (some ⟨b, 0, none⟩)) (hG : K4 v b v0 v1 v2 v3) :
    (results fn tmps).run Tryz.prog v = .ok (.agg #[v0, v1, v2, v3]) v := by
  have hp' : tmps[p]?.getD undef = .pointer (some ⟨b, 0, none⟩) := by simpa using hp
  obtain ⟨c0, c1, c2, c3⟩ := hG
  simp [results, h, hp', asAddr, go_sem, c0, c1, c2, c3]

/-- What next tells. -/
def Nxt (w0 : World) (Y : List Tk) (e : Ending) : Prop := ∃ x : Tv, e = .returned x.val ∧ x.i = nti Y ∧ x.ok w0

set_option maxRecDepth 100000 in
set_option maxHeartbeats 4000000 in
theorem next_any (w0 w : World) (Y : List Tk) (u1 : Value) (h : Sr w0 w Y u1) :
    Calls Tryz.prog 61 #[.pointer (some ⟨w0.heap.size, 0, none⟩)] w fun e w' => Nxt w0 Y e ∧ Below w.heap.size w w' := by
  obtain ⟨so, cap, r, hc, hm, hY⟩ := h.box
  obtain ⟨cw, cw1, cw2, cw3, cw4, fz, hlt⟩ := r
  have hl := h.lt
  cases Y with
  | nil =>
    rw [List.length_nil] at cw hc
    have HN : Hid (Nxt w0 [] (.returned (.agg #[.int .i64 0, .int .i64 0, .int .i64 0, .slice none 0 0]))) := ⟨⟨⟨0, 0, 0, []⟩, none, 0⟩, rfl, rfl, lf_none _ _⟩
    have hk := k4_new w (.int .i64 0) (.int .i64 0) (.int .i64 0) (.slice none 0 0) 76
    have HK : Hid _ := hk
    clear hY h cw1 cw2 cw3 cw4 fz hk
    go_enter Tryz.func61, Tryz.ntmps61
    go_wp2_with fail
    refine bodyPost_ret (results_tok1 rfl _ _ w.heap.size rfl HK.out) rfl ?_
    exact ⟨HN.out, al_below _ _⟩
  | cons t Y =>
    obtain ⟨b, o, rfl, hb, hC⟩ := hY.at' (by rw [List.length_cons]; omega)
    obtain ⟨ao, c, c0, c1, c2, c3, hlf⟩ := hC 0 (by rw [List.length_cons]; omega)
    rw [List.getElem_cons_zero] at c0 c1 c2 c3 hlf
    rw [Nat.zero_mul, Nat.add_zero] at c0 c1 c2 c3
    have C := fun (t : Nat) => h.bel.cell (p := ⟨b, t, none⟩) hb
    have d0 := (C _).trans c0
    have d1 := (C _).trans c1
    have d2 := (C _).trans c2
    have d3 := (C _).trans c3
    have HN : Hid (Nxt w0 (t :: Y) (.returned (.agg #[.int .i64 (t.kind : Int), .int .i64 (t.at' : Int), .int .i64 (t.n : Int), .slice ao t.p.length c]))) := ⟨⟨t.i, ao, c⟩, rfl, rfl, hlf⟩
    have hk := k4_new w (.int .i64 (t.kind : Int)) (.int .i64 (t.at' : Int)) (.int .i64 (t.n : Int)) (.slice ao t.p.length c) 76
    have HK : Hid _ := hk
    have hbw : b < w.heap.size := by omega
    have hs := hY.small
    rw [List.length_cons] at cw hc hs
    generalize Y.length = n at *
    generalize (t.kind : Int) = tk at *
    generalize (t.at' : Int) = ta at *
    generalize (t.n : Int) = tn at *
    generalize t.p.length = tp at *
    clear hY h cw1 cw2 cw3 cw4 fz hk hC C c0 c1 c2 c3 hlf
    go_enter Tryz.func61, Tryz.ntmps61
    go_wp2_with fail
    refine bodyPost_ret (results_tok1 rfl _ _ w.heap.size rfl HK.out) rfl ?_
    exact ⟨HN.out, al_below _ _⟩

theorem ty_tail {w : World} {b o : Nat} {t : Tk} {Y : List Tk} (h : Ty w (some ⟨b, o, none⟩) (t :: Y)) (so' : Option Addr) (hso : 1 ≤ Y.length → so' = some ⟨b, o + 4, none⟩) : Ty w so' Y := by
  obtain ⟨L, hL, e⟩ := h.ex
  cases L with
  | nil => cases e
  | cons x L =>
    rw [List.map_cons, List.map_cons] at e
    injection e with _ e2
    have hs := hL.small
    rw [List.length_cons] at hs
    have hl : L.length = Y.length := by have := congrArg List.length e2; simpa using this
    refine ⟨L, ⟨by omega, fun h1 => ?_, fun y hy => hL.ok y (List.mem_cons_of_mem _ hy)⟩, e2⟩
    obtain ⟨b', o', e', hb, hC⟩ := hL.lies (by rw [List.length_cons]; omega)
    cases e'
    refine ⟨b, o + 4, hso (by omega), hb, fun i hi => ?_⟩
    have := hC (i + 1) (by rw [List.length_cons]; omega)
    rw [List.getElem_cons_succ, show o + (i + 1) * 4 = o + 4 + i * 4 by omega] at this
    exact this

set_option maxRecDepth 100000 in
set_option maxHeartbeats 4000000 in
theorem step_any (w0 w : World) (t : Tk) (Y : List Tk) (u1 : Value) (h : Sr w0 w (t :: Y) u1) :
    Calls Tryz.prog 62 #[.pointer (some ⟨w0.heap.size, 0, none⟩)] w fun e w' => e = .returned (.tuple #[]) ∧ Sr w0 w' Y u1 ∧ Fr (fun k => k ≠ w0.heap.size) w w' := by
  obtain ⟨so, cap, r, hc, hm, hY⟩ := h.box
  have HB := h.bel
  have HR : Hid (R5 w w0.heap.size (.slice so (t :: Y).length cap) u1) := r
  obtain ⟨cw, cw1, cw2, cw3, cw4, fz, hlt⟩ := r
  obtain ⟨b, o, rfl, hb, _⟩ := hY.at' (by rw [List.length_cons]; omega)
  have hs := hY.small
  have HF : ∀ (so' : Option Addr) (c' : Nat), (1 ≤ Y.length → so' = some ⟨b, o + 4, none⟩) → Y.length ≤ c' → c' ≤ 9223372036854775807 → Sr w0 (w.setCell ⟨w0.heap.size, 0, none⟩ (.slice so' Y.length c')) Y u1 ∧ Fr (fun k => k ≠ w0.heap.size) w (w.setCell ⟨w0.heap.size, 0, none⟩ (.slice so' Y.length c')) := fun so' c' h1 h2 h3 =>
    ⟨⟨HB.setCell (p := ⟨w0.heap.size, 0, none⟩) (Nat.le_refl _) _, so', c', HR.out.put0 _, h2, h3, ty_tail hY so' h1⟩, (Fr.refl _ w).setCell (by simp) _⟩
  have HF2 : Hid _ := HF
  rw [List.length_cons] at cw hc hs
  have f0 := fz 0
  generalize hyl : Y.length = n at *
  clear HF HB HR hY h cw1 cw2 cw3 cw4 fz
  by_cases hc1 : cap = 1
  · subst hc1
    obtain rfl : n = 0 := by omega
    go_enter Tryz.func62, Tryz.ntmps62
    go_wp2_with fail
    go_end0
    exact ⟨rfl, HF2.out _ _ (fun h => by omega) (by omega) (by omega)⟩
  · go_enter Tryz.func62, Tryz.ntmps62
    go_wp2_with fail
    go_end0
    exact ⟨rfl, HF2.out _ _ (fun h => rfl) (by omega) (by omega)⟩

set_option maxRecDepth 100000 in
set_option maxHeartbeats 4000000 in
theorem place_any (w0 w : World) (s : ByteArray) (m : Nat) (hm : s.size = m) (Y : List Tk) (u1 : Value) (h : Sr w0 w Y u1) :
    Calls Tryz.prog 20 #[.pointer (some ⟨w0.heap.size, 0, none⟩), .int .i64 (m : Int)] w fun e w' => e = .returned (.int .i64 (plq s Y : Int)) ∧ Below w.heap.size w w' := by
  obtain ⟨so, cap, r, hc, hmx, hY⟩ := h.box
  obtain ⟨cw, cw1, cw2, cw3, cw4, fz, hlt⟩ := r
  cases Y with
  | nil =>
    rw [List.length_nil] at cw
    have HP : Hid (plq s [] = m) := hm
    generalize plq s [] = pl at *
    clear hY h cw1 cw2 cw3 cw4 fz hc hm
    go_enter Tryz.func20, Tryz.ntmps20
    go_wp2_with fail
    go_ret
    exact ⟨by rw [HP.out]; rfl, Below.refl _ _⟩
  | cons t Y =>
    obtain ⟨b, o, rfl, hb, hC⟩ := hY.at' (by rw [List.length_cons]; omega)
    obtain ⟨ao, c, c0, c1, c2, c3, hlf⟩ := hC 0 (by rw [List.length_cons]; omega)
    rw [List.getElem_cons_zero, Nat.zero_mul, Nat.add_zero] at c1
    have d1 := (h.bel.cell (p := ⟨b, o + 1, none⟩) hb).trans c1
    have hs := hY.small
    rw [List.length_cons] at cw hs hc
    show Calls _ _ _ _ fun e w' => e = .returned (.int .i64 (t.at' : Int)) ∧ _
    clear hY h cw1 cw2 cw3 cw4 fz hC c0 c1 c2 c3 hlf
    generalize (t.at' : Int) = ta at *
    generalize Y.length = n at *
    go_enter Tryz.func20, Tryz.ntmps20
    go_wp2_with fail
    go_ret
    exact ⟨rfl, Below.refl _ _⟩

/-- A token's kind; its elements. -/
theorem tfield0 (a b c : Int) (ao : Option Addr) (l k : Nat) (w : World) : (Instr.field 76 (.agg #[.int .i64 a, .int .i64 b, .int .i64 c, .slice ao l k]) 0).run Tryz.prog w = .ok (.int .i64 a) w := by kernel_rfl

theorem tfield3 (a b c : Int) (ao : Option Addr) (l k : Nat) (w : World) : (Instr.field 76 (.agg #[.int .i64 a, .int .i64 b, .int .i64 c, .slice ao l k]) 3).run Tryz.prog w = .ok (.slice ao l k) w := by kernel_rfl

/-- Do the tokens begin with a closing bracket? What is left then. -/
def clq (Y : List Tk) : Bool × List Tk := match Y with | t :: r => if t.kind = 2 then (true, r) else (false, t :: r) | [] => (false, [])

set_option maxRecDepth 100000 in
set_option maxHeartbeats 4000000 in
theorem close_any (w0 w : World) (Y : List Tk) (u1 : Value) (h : Sr w0 w Y u1) :
    Calls Tryz.prog 63 #[.pointer (some ⟨w0.heap.size, 0, none⟩)] w fun e w' => e = .returned (.bool (clq Y).1) ∧ Sr w0 w' (clq Y).2 u1 ∧ Fr (fun k => k ≠ w0.heap.size) w w' := by
  have CN : Hid _ := next_any w0 w Y u1 h
  have HS : Hid _ := h
  have hfd := tfield0
  have hkd := nti_kind Y
  by_cases hq : knq Y = 2
  · obtain ⟨t, r, rfl⟩ : ∃ t r, Y = t :: r := by
      cases Y with
      | nil => cases hq
      | cons t r => exact ⟨t, r, rfl⟩
    have hq2 : t.kind = 2 := hq
    have HQ : Hid (clq (t :: r) = (true, r)) := by show clq _ = _; unfold clq; simp only; rw [if_pos hq2]
    have hk : (nti (t :: r)).kind = 2 := by rw [hkd, hq]; rfl
    clear h hkd hq hq2
    go_enter Tryz.func63, Tryz.ntmps63
    go_wp2_with fail
    refine Calls.mono CN.out ?_; rintro e w1 ⟨⟨x, rfl, hxi, hxo⟩, b1⟩
    have hx2 : x.i.kind = 2 := by rw [hxi]; exact hk
    unfold Tv.val
    generalize hxk : x.i.kind = xk at *
    subst hx2
    have H1 : Hid _ := HS.out.grow b1
    have HB : Hid _ := b1
    clear hxk hxi hxo b1 CN hk
    have CS : Hid _ := step_any w0 w1 t r u1 H1.out
    go_wp2_with fail
    refine Calls.mono CS.out ?_; rintro e w2 ⟨rfl, hs2, hf2⟩
    have H2 : Hid _ := hs2
    have F2 : Hid _ := (Fr.of_below (A := fun k => k ≠ w0.heap.size) HB.out (fun k hk _ => hk)).trans hf2
    clear hs2 hf2 CS
    go_wp2_with fail
    go_ret
    exact ⟨by rw [HQ.out]; rfl, by rw [HQ.out]; exact H2.out, F2.out⟩
  · have HQ : Hid (clq Y = (false, Y)) := by
      show _ = _
      unfold clq
      cases Y with
      | nil => rfl
      | cons t r =>
        simp only
        rw [if_neg (by exact hq)]
    have hk : ¬ (nti Y).kind = 2 := by rw [hkd]; omega
    clear h hkd hq
    go_enter Tryz.func63, Tryz.ntmps63
    go_wp2_with fail
    refine Calls.mono CN.out ?_; rintro e w1 ⟨⟨x, rfl, hxi, hxo⟩, b1⟩
    have hx2 : (x.i.kind == 2) = false := by rw [hxi]; rw [beq_eq_false_iff_ne]; exact hk
    unfold Tv.val
    generalize hxk : x.i.kind = xk at *
    have H1 : Hid _ := HS.out.grow b1
    have F1 : Hid _ := Fr.of_below (A := fun k => k ≠ w0.heap.size) b1 (fun k hk _ => hk)
    clear hxk hxi hxo b1 CN hk
    go_wp2_with fail
    go_ret
    exact ⟨by rw [HQ.out]; rfl, by rw [HQ.out]; exact H1.out, F1.out⟩

end Cls

end Go.Proofs.YtbnnobeahliffaaGreatDoor

set_option linter.unusedVariables false
namespace Go.Proofs.YtbnnobeahliffaaGreatDoor
open Go.RowKit
namespace Cls

/-- The nodes that a reader has read. -/
structure Stn (w0 w : World) (v : Value) (L : List Qv) : Prop where
  own : w.ownsRow (w0.heap.size + 1) 36 4 v L.length (qkc L)
  ok : ∀ x ∈ L, x.ok w0

theorem owns_fr {A : Nat → Prop} {w w' : World} {base e size k : Nat} {v : Value} {xs : List Value} (h : w.ownsRow base e size v k xs) (hb : Fr A w w') (hA : ∀ j, base ≤ j → A j) : w'.ownsRow base e size v k xs := by
  refine ⟨h.1, ?_⟩
  rcases h.2 with h0 | ⟨g, cap, cur, hv, hg, hc, h1⟩
  · exact .inl h0
  · exact .inr ⟨g, cap, cur, hv, hg, (hb.block g (Array.getElem?_eq_some_iff.1 hc).1 (hA g hg)).trans hc, h1⟩

theorem own_low {w : World} {base e size k : Nat} {v : Value} {xs : List Value} (h : w.ownsRow base e size v k xs) : ∀ g, v.ownBlock = some g → base ≤ g := by
  intro g hg
  obtain ⟨_, ⟨e, _⟩ | ⟨g', cap, cur, hv, hg', _⟩⟩ := h
  · subst e; simp [Value.ownBlock] at hg
  · subst hv
    simp [Value.ownBlock] at hg
    omega

theorem owns_other {A : Nat → Prop} {w w' : World} {base e size k : Nat} {v : Value} {xs : List Value} (h : w.ownsRow base e size v k xs) (hb : Fr A w w') (hA : ∀ g, v.ownBlock = some g → A g) : w'.ownsRow base e size v k xs := by
  refine ⟨h.1, ?_⟩
  rcases h.2 with h0 | ⟨g, cap, cur, hv, hg, hc, h1⟩
  · exact .inl h0
  · exact .inr ⟨g, cap, cur, hv, hg, (hb.block g (Array.getElem?_eq_some_iff.1 hc).1 (hA g (by rw [hv]; rfl))).trans hc, h1⟩

theorem own_high {w : World} {base e size k : Nat} {v : Value} {xs : List Value} (h : w.ownsRow base e size v k xs) : ∀ g, v.ownBlock = some g → g < w.heap.size := by
  intro g hg
  obtain ⟨_, ⟨e, _⟩ | ⟨g', cap, cur, hv, hg', hbk, _⟩⟩ := h
  · subst e; simp [Value.ownBlock] at hg
  · subst hv
    simp [Value.ownBlock] at hg
    subst hg
    exact (Array.getElem?_eq_some_iff.1 hbk).1

theorem Stn.kept {w0 w w' : World} {v : Value} {L : List Qv} (h : Stn w0 w v L) (b : Fr (fun k => k ≠ w0.heap.size) w w') : Stn w0 w' v L := ⟨owns_fr h.own b (fun j hj => by omega), h.ok⟩

theorem Stn.grow {w0 w w' : World} {v : Value} {L : List Qv} (h : Stn w0 w v L) (b : Below w.heap.size w w') : Stn w0 w' v L := h.kept (Fr.of_below b (fun k hk _ => hk))

/-- A reader: the tokens left, the nodes read. -/
def St (w0 w : World) (Y : List Tk) (R : List Qn) : Prop := (∃ v L, Sr w0 w Y v ∧ Stn w0 w v L ∧ qis L = R) ∧ R.length + Y.length ≤ 100000

/-- What a reading function tells, and leaves. -/
def Ro (w0 : World) (R : List Qn) (w' : World) (res : Pr) (e : Ending) : Prop :=
  match res with
  | .ok (X, r) => e = .returned (.bool true) ∧ St w0 w' r (R ++ X.flat)
  | .error r => e = .returned (.bool false) ∧ ∃ v, Sr w0 w' r v

theorem qis_snoc (L : List Qv) (y : Qv) : qis (L ++ [y]) = qis L ++ [y.i] := by unfold qis; rw [List.map_append]; rfl

/-- A node is appended. -/
theorem st_app {w0 w w1 w' : World} {Y : List Tk} {v v' : Value} {L : List Qv} {y : Qv} (hs : Sr w0 w Y v) (hb : Below w.heap.size w w1) (hn : Stn w0 w v L) (hy : y.ok w0)
    (ho : w'.ownsRow (w0.heap.size + 1) 36 4 v' (L.length + 1) (qkc L ++ y.four)) (hg : w1.grownBy w' v.ownBlock) :
    w'.cell? ⟨w0.heap.size, 1, none⟩ = some v ∧ w'.frozen? ⟨w0.heap.size, 1, none⟩ = false ∧ Sr w0 (w'.setCell ⟨w0.heap.size, 1, none⟩ v') Y v' ∧ Stn w0 (w'.setCell ⟨w0.heap.size, 1, none⟩ v') v' (L ++ [y]) := by
  have hlow := own_low hn.own
  have f : Fr (fun k => k ≤ w0.heap.size) w1 w' := (Fr.refl _ w1).grown hg (fun k hk hA => by have := hlow k hk; omega)
  have s1 := (hs.grow hb).kept f (fun k hk => hk)
  obtain ⟨so, cap, r, _⟩ := s1.box
  refine ⟨r.c1, r.f 1, s1.put1 v', ?_, ?_⟩
  · rw [List.length_append, List.length_singleton, qkc_append, show qkc [y] = y.four by simp [qkc]]
    exact owns_fr ho ((Fr.refl (fun k => k ≠ w0.heap.size) w').setCell (by simp) v') (fun j hj => by omega)
  · intro x hx
    rcases List.mem_append.1 hx with hx | hx
    · exact hn.ok x hx
    · rw [List.mem_singleton] at hx; subst hx; exact hy


theorem gr_undrew {w w' : World} {r : Option Nat} (h : w.drew.grownBy w' r) : w.grownBy w' r := ⟨h.os, h.tape, h.output, h.size, h.block⟩

theorem itq_find (f : Nat) (t : Tk) (Y : List Tk) (ht : t.kind = 8) : itq (f + 1) (t :: Y) = match Y with
      | [] => .ok (⟨⟨1, 0, t.p, 0⟩, []⟩, [])
      | u :: L' => if u.kind = 7 then (if 64 < u.n then .error (u :: L') else .ok (⟨⟨1, 0, t.p, (u.n : Int)⟩, []⟩, L')) else .ok (⟨⟨1, 0, t.p, 0⟩, []⟩, u :: L') := by
  rw [itq_step, if_neg (by omega), if_neg (by omega), if_pos ht]
  cases Y <;> rfl

theorem sr_kept2 {w0 w w' : World} {Y : List Tk} {v : Value} (h : Sr w0 w Y v) (g : Nat) (hg : w0.heap.size < g) (b : Fr (fun k => k ≠ g) w w') : Sr w0 w' Y v := h.kept b (fun k hk => by omega)

set_option maxRecDepth 100000 in
set_option maxHeartbeats 4000000 in
theorem rfind_any (w0 w : World) (t : Tk) (Y : List Tk) (R : List Qn) (f : Nat) (ht : t.kind = 8) (h : St w0 w (t :: Y) R) :
    Calls Tryz.prog 64 #[.pointer (some ⟨w0.heap.size, 0, none⟩)] w fun e w' => Ro w0 R w' (itq (f + 1) (t :: Y)) e := by
  obtain ⟨i0, hi0, hz0, hz1, hz2⟩ := infoQ
  obtain ⟨⟨v, L, hs, hn, hR⟩, hcnt⟩ := h
  rw [List.length_cons] at hcnt
  have hfd := tfield3
  have hRl : R.length = L.length := by rw [← hR, qis_len]
  have HRS : Hid _ := itq_find f t Y ht
  generalize itq (f + 1) (t :: Y) = res at *
  have CN : Hid _ := next_any w0 w (t :: Y) v hs
  have HS : Hid _ := hs
  have HN : Hid _ := hn
  have hbound : L.length ≤ 100000 := by omega
  obtain ⟨m, hm⟩ : ∃ m, L.length = m := ⟨_, rfl⟩
  have HL : Hid (L.length = m) := hm
  rw [hm] at hbound hRl
  have HC : Hid (R.length + (Y.length + 1) ≤ 100000) := hcnt
  have HQ : Hid (qis L = R) := hR
  clear hs hn hcnt hR hm
  go_enter Tryz.func64, Tryz.ntmps64
  go_wp2_with fail
  refine Calls.mono CN.out ?_; rintro e w1 ⟨⟨x, rfl, hxi, hxo⟩, b1⟩
  unfold Tv.val
  have HX : Hid (x.i.p = t.p) := by show _ = _; rw [hxi]; rfl
  have HXO : Hid (x.ok w0) := hxo
  have HG : Hid (∀ g, v.ownBlock = some g → g < w1.heap.size) := fun g hg => by have := own_high HN.out.own g hg; have := b1.size; omega
  have S1 : Hid _ := HS.out.grow b1
  have N1 : Hid _ := HN.out.grow b1
  obtain ⟨w2, e2⟩ : ∃ w2, w2 = w1.alloc (.cells #[.slice x.ao x.i.p.length x.cap, .int .i64 0] 34) := ⟨_, rfl⟩
  have b2 : Below w1.heap.size w1 w2 := by rw [e2]; exact al_below _ _
  have hl1 : w0.heap.size < w1.heap.size := S1.out.lt
  have k2 : K2 w2 w1.heap.size (.slice x.ao x.i.p.length x.cap) (.int .i64 0) := by rw [e2]; exact k2_new _ _ _ _
  have FZ2 : Hid (∀ t, w2.frozen? ⟨w1.heap.size, t, none⟩ = false) := by show ∀ t, _; intro t; rw [e2]; exact World.frozen?_alloc_at _ _ _ _ rfl
  have K2a : Hid _ := k2
  have S2 : Hid _ := S1.out.grow b2
  have N2 : Hid _ := N1.out.grow b2
  have E2 : Hid _ := e2
  have CS : Hid _ := step_any w0 w2 t Y v S2.out
  clear b1 hxi hxo CN HS HN b2 e2 S1 N1 k2
  go_wp2_with (first | rw [← E2.out])
  refine Calls.mono CS.out ?_; rintro e w3 ⟨rfl, hs3, hf3⟩
  have S3 : Hid _ := hs3
  have N3 : Hid _ := N2.out.kept hf3
  have hlt2 : w1.heap.size < w2.heap.size := World.block_lt_of_cell? w2 _ K2a.out.c0
  have K3 : Hid (K2 w3 w1.heap.size (.slice x.ao x.i.p.length x.cap) (.int .i64 0)) := ⟨(hf3.cell (p := ⟨w1.heap.size, 0, none⟩) (by simp; omega) hlt2).trans K2a.out.c0, (hf3.cell (p := ⟨w1.heap.size, 1, none⟩) (by simp; omega) hlt2).trans K2a.out.c1⟩
  have FZ3 : Hid (∀ t, w3.frozen? ⟨w1.heap.size, t, none⟩ = false) := fun t => (hf3.frozen (p := ⟨w1.heap.size, t, none⟩) (by simp; omega) hlt2).trans (FZ2.out t)
  have hlt3 : w1.heap.size < w3.heap.size := Nat.lt_of_lt_of_le hlt2 hf3.size
  have CN3 : Hid _ := next_any w0 w3 Y v S3.out
  clear hs3 hf3 S2 N2 K2a E2 CS FZ2 hlt2
  go_wp2_with fail
  refine Calls.mono CN3.out ?_; rintro e w4 ⟨⟨z, rfl, hzi, hzo⟩, b4⟩
  unfold Tv.val
  have hzk : z.i.kind = (knq Y : Int) := by rw [hzi, nti_kind]
  have HZ : Hid (z.i = nti Y) := hzi
  have S4 : Hid _ := S3.out.grow b4
  have N4 : Hid _ := N3.out.grow b4
  have K4a : Hid _ := K3.out.keep b4
  have FZ4 : Hid (∀ t, w4.frozen? ⟨w1.heap.size, t, none⟩ = false) := fun t => (b4.frozen (p := ⟨w1.heap.size, t, none⟩) hlt3).trans (FZ3.out t)
  have hlt4 : w1.heap.size < w4.heap.size := Nat.lt_of_lt_of_le hlt3 b4.size
  obtain ⟨w5, e5⟩ : ∃ w5, w5 = w4.alloc (.cells #[.int .i64 z.i.kind, .int .i64 z.i.at', .int .i64 z.i.n, .slice z.ao z.i.p.length z.cap] 76) := ⟨_, rfl⟩
  have b5 : Below w4.heap.size w4 w5 := by rw [e5]; exact al_below _ _
  obtain ⟨a0, a1, a2, a3⟩ : K4 w5 w4.heap.size (.int .i64 z.i.kind) (.int .i64 z.i.at') (.int .i64 z.i.n) (.slice z.ao z.i.p.length z.cap) := by rw [e5]; exact k4_new _ _ _ _ _ _
  have S5 : Hid _ := S4.out.grow b5
  have N5 : Hid _ := N4.out.grow b5
  obtain ⟨l0, l1⟩ := K4a.out.keep b5
  have L5 : Hid (K2 w5 w1.heap.size (.slice x.ao x.i.p.length x.cap) (.int .i64 0)) := ⟨l0, l1⟩
  have fl := (b5.frozen (p := ⟨w1.heap.size, 1, none⟩) hlt4).trans (FZ4.out 1)
  have hlt5 : w1.heap.size < w5.heap.size := Nat.lt_of_lt_of_le hlt4 b5.size
  have hl05 : w0.heap.size < w5.heap.size := S5.out.lt
  have E5 : Hid _ := e5
  clear hzi hzo b4 b5 e5 K3 FZ3 CN3 S3 N3 S4 N4 K4a FZ4 hlt3
  by_cases h7 : knq Y = 7
  · obtain ⟨u, Y', rfl⟩ : ∃ u Y', Y = u :: Y' := by
      cases Y with
      | nil => cases h7
      | cons u Y' => exact ⟨u, Y', rfl⟩
    have hu7 : u.kind = 7 := h7
    have hq7 : (z.i.kind == 7) = true := by rw [hzk, beq_iff_eq]; omega
    have hzn : z.i.n = (u.n : Int) := by rw [HZ.out]; rfl
    rw [hzn] at a2
    by_cases h64 : 64 < u.n
    · have HRES : Hid (res = .error (u :: Y')) := by show _ = _; rw [HRS.out]; simp only; rw [if_pos hu7, if_pos h64]
      have hI : (64 : Int) < (u.n : Int) := by omega
      have E5 : Hid (w5 = w4.alloc (.cells #[.int .i64 z.i.kind, .int .i64 z.i.at', .int .i64 (u.n : Int), .slice z.ao z.i.p.length z.cap] 76)) := by show _ = _; rw [← hzn]; exact E5.out
      clear h7 hzk HZ HRS hu7 h64
      rw [hzn]
      generalize hun : (u.n : Int) = un at *
      clear hun hzn
      go_wp2_with (first | rw [← E5.out])
      go_ret
      rw [HRES.out]
      exact ⟨rfl, _, S5.out⟩
    · have HRES : Hid (res = .ok (⟨⟨1, 0, t.p, (u.n : Int)⟩, []⟩, Y')) := by show _ = _; rw [HRS.out]; simp only; rw [if_pos hu7, if_neg h64]
      have hI : ¬ (64 : Int) < (u.n : Int) := by omega
      have E5 : Hid (w5 = w4.alloc (.cells #[.int .i64 z.i.kind, .int .i64 z.i.at', .int .i64 (u.n : Int), .slice z.ao z.i.p.length z.cap] 76)) := by show _ = _; rw [← hzn]; exact E5.out
      clear h7 hzk HZ HRS hu7 h64
      rw [hzn]
      have f6 : Fr (fun k => k ≠ w1.heap.size) w5 (w5.setCell ⟨w1.heap.size, 1, none⟩ (.int .i64 (u.n : Int))) := (Fr.refl _ w5).setCell (by simp) _
      have S6 : Hid _ := sr_kept2 S5.out w1.heap.size hl1 f6
      have O6 : Hid (Stn w0 (w5.setCell ⟨w1.heap.size, 1, none⟩ (.int .i64 (u.n : Int))) v L) := ⟨owns_other N5.out.own f6 (fun g hg => by have := HG.out g hg; omega), N5.out.ok⟩
      have K6 : Hid (K2 (w5.setCell ⟨w1.heap.size, 1, none⟩ (.int .i64 (u.n : Int))) w1.heap.size (.slice x.ao x.i.p.length x.cap) (.int .i64 (u.n : Int))) := by
        have hw : Wrote (fun b t => b = w1.heap.size ∧ t = 1) w5 (w5.setCell ⟨w1.heap.size, 1, none⟩ (.int .i64 (u.n : Int))) := (Wrote.refl _ w5).setCell ⟨rfl, rfl⟩ _
        exact ⟨(hw.cell _ _ (fun e => by omega)).trans L5.out.c0, World.cell?_setCell_same _ _ _ L5.out.c1⟩
      generalize hun : (u.n : Int) = un at *
      obtain ⟨w6, e6⟩ : ∃ w6, w6 = w5.setCell ⟨w1.heap.size, 1, none⟩ (.int .i64 un) := ⟨_, rfl⟩
      rw [← e6] at S6 O6 K6
      have HLT6 : Hid (w1.heap.size < w6.heap.size) := World.block_lt_of_cell? w6 _ K6.out.c0
      have CS6 : Hid _ := step_any w0 w6 u Y' v S6.out
      have E6 : Hid _ := e6
      clear hun hzn e6 f6
      go_wp2_with (first | rw [← E5.out] | rw [← E6.out])
      refine Calls.mono (by first | exact CS6.out | (rw [← E6.out]; exact CS6.out)) ?_; rintro e w7 ⟨rfl, hs7, hf7⟩
      have S7 : Hid _ := hs7
      have N7 : Hid _ := O6.out.kept hf7
      clear l0 l1 a0 a1 a2 a3
      obtain ⟨l0, l1⟩ : K2 w7 w1.heap.size (.slice x.ao x.i.p.length x.cap) (.int .i64 un) := ⟨(hf7.cell (p := ⟨w1.heap.size, 0, none⟩) (by simp; omega) HLT6.out).trans K6.out.c0, (hf7.cell (p := ⟨w1.heap.size, 1, none⟩) (by simp; omega) HLT6.out).trans K6.out.c1⟩
      clear hlt4 hlt5
      have hlt7 : w1.heap.size < w7.heap.size := Nat.lt_of_lt_of_le HLT6.out hf7.size
      have hl07 : w0.heap.size < w7.heap.size := S7.out.lt
      clear hs7 hf7 S6 O6 K6 CS6 E6 E5 S5 N5 L5 fl hl05
      have HST : Hid (∀ w9 g cp, w9.ownsRow (w0.heap.size + 1) 36 4 (.slice (some ⟨g, 0, none⟩) (m + 1) cp) (m + 1) (qkc L ++ ([.int .i64 1, .int .i64 0, .slice x.ao x.i.p.length x.cap, .int .i64 un] : List Value)) → (w7.alloc (.cells #[.int .i64 1, .int .i64 0, .slice x.ao x.i.p.length x.cap, .int .i64 un] 36)).grownBy w9 v.ownBlock → w9.cell? ⟨w0.heap.size, 1, none⟩ = some v ∧ w9.frozen? ⟨w0.heap.size, 1, none⟩ = false ∧ (Sr w0 (w9.setCell ⟨w0.heap.size, 1, none⟩ (.slice (some ⟨g, 0, none⟩) (m + 1) cp)) Y' (.slice (some ⟨g, 0, none⟩) (m + 1) cp) ∧ Stn w0 (w9.setCell ⟨w0.heap.size, 1, none⟩ (.slice (some ⟨g, 0, none⟩) (m + 1) cp)) (.slice (some ⟨g, 0, none⟩) (m + 1) cp) (L ++ [(⟨⟨1, 0, x.i.p, un⟩, x.ao, x.cap⟩ : Qv)]))) := fun w9 g cp k1 k2 => by
        have h := st_app (y := (⟨⟨1, 0, x.i.p, un⟩, x.ao, x.cap⟩ : Qv)) S7.out (al_below _ _) N7.out HXO.out (by rw [HL.out]; exact k1) k2
        exact h
      have OW : Hid (w7.ownsRow (w0.heap.size + 1) 36 4 v m (qkc L)) := by have := N7.out.own; rw [HL.out] at this; exact this
      have NW : Hid (∀ j u, ([.int .i64 1, .int .i64 0, .slice x.ao x.i.p.length x.cap, .int .i64 un] : List Value)[j]? = some u → (w7.alloc (.cells #[.int .i64 1, .int .i64 0, .slice x.ao x.i.p.length x.cap, .int .i64 un] 36)).cell? ((⟨w7.heap.size, 0, none⟩ : Addr).add j) = some u) := fun j u h => new4q w7 (⟨⟨1, 0, x.i.p, un⟩, x.ao, x.cap⟩ : Qv) _ j u h
      have PL : Hid (∀ u ∈ ([.int .i64 1, .int .i64 0, .slice x.ao x.i.p.length x.cap, .int .i64 un] : List Value), u.oneCell' = true) := plain4q (⟨⟨1, 0, x.i.p, un⟩, x.ao, x.cap⟩ : Qv)
      have hsz : w0.heap.size + 1 ≤ w7.heap.size := S7.out.lt
      obtain ⟨so, cap, r5, _, _, _⟩ := S7.out.box
      have rc1 := r5.c1
      have rf1 := r5.f 1
      clear r5
      go_wp2_with fail
      go_region_law ((refine step_append_lies _ (by rfl) _ _ _ (by rfl) (w0.heap.size + 1) 36 i0 (.agg #[.int .i64 0, .int .i64 0, .slice none 0 0, .int .i64 0]) 4 48 Tryz.underlying23 hi0 hz0 hz1 hz2 (by rfl) (by decide) v m (qkc L) (by simp [Act.eval]) ((OW.out.alloc _).drew) ⟨w7.heap.size, 0, none⟩ 1 1 ([.int .i64 1, .int .i64 0, .slice x.ao x.i.p.length x.cap, .int .i64 un] : List Value) (by simp [Act.eval]) (by rfl) (fun j u h => NW.out j u h) (PL.out) (by omega) (by unfold maxLen; omega) (by omega) (by simp; omega) _ (by rfl) ?_; intro g cp w9 hown9 hgrow hat hlt9; obtain ⟨q0, q1, hq9⟩ := HST.out w9 g cp hown9 (gr_undrew hgrow); have T9 : Hid _ := hq9; clear hq9 hown9 hgrow hat hlt9))

      all_goals
        go_wp2_with fail
        go_ret
        rw [HRES.out]
        refine ⟨rfl, ⟨_, _, T9.out.1, T9.out.2, ?_⟩, ?_⟩
        · rw [qis_snoc, HQ.out, Qt.flat0, ← HX.out]
        · have := HC.out
          rw [List.length_append, Qt.flat0, List.length_singleton]
          rw [List.length_cons] at this; omega
  · have hq7 : (z.i.kind == 7) = false := by rw [hzk, beq_eq_false_iff_ne]; omega
    have HRES : Hid (res = .ok (⟨⟨1, 0, t.p, 0⟩, []⟩, Y)) := by
      show _ = _
      rw [HRS.out]
      cases Y with
      | nil => rfl
      | cons u L' => simp only; rw [if_neg (by exact h7)]
    clear h7 hzk HZ HRS
    go_wp2_with (first | rw [← E5.out])
    have HST : Hid (∀ w9 g cp, w9.ownsRow (w0.heap.size + 1) 36 4 (.slice (some ⟨g, 0, none⟩) (m + 1) cp) (m + 1) (qkc L ++ ([.int .i64 1, .int .i64 0, .slice x.ao x.i.p.length x.cap, .int .i64 0] : List Value)) → (w5.alloc (.cells #[.int .i64 1, .int .i64 0, .slice x.ao x.i.p.length x.cap, .int .i64 0] 36)).grownBy w9 v.ownBlock → w9.cell? ⟨w0.heap.size, 1, none⟩ = some v ∧ w9.frozen? ⟨w0.heap.size, 1, none⟩ = false ∧ (Sr w0 (w9.setCell ⟨w0.heap.size, 1, none⟩ (.slice (some ⟨g, 0, none⟩) (m + 1) cp)) Y (.slice (some ⟨g, 0, none⟩) (m + 1) cp) ∧ Stn w0 (w9.setCell ⟨w0.heap.size, 1, none⟩ (.slice (some ⟨g, 0, none⟩) (m + 1) cp)) (.slice (some ⟨g, 0, none⟩) (m + 1) cp) (L ++ [(⟨⟨1, 0, x.i.p, 0⟩, x.ao, x.cap⟩ : Qv)]))) := fun w9 g cp k1 k2 => by
      have h := st_app (y := (⟨⟨1, 0, x.i.p, 0⟩, x.ao, x.cap⟩ : Qv)) S5.out (al_below _ _) N5.out HXO.out (by rw [HL.out]; exact k1) k2
      exact h
    have OW : Hid (w5.ownsRow (w0.heap.size + 1) 36 4 v m (qkc L)) := by have := N5.out.own; rw [HL.out] at this; exact this
    have NW : Hid (∀ j u, ([.int .i64 1, .int .i64 0, .slice x.ao x.i.p.length x.cap, .int .i64 0] : List Value)[j]? = some u → (w5.alloc (.cells #[.int .i64 1, .int .i64 0, .slice x.ao x.i.p.length x.cap, .int .i64 0] 36)).cell? ((⟨w5.heap.size, 0, none⟩ : Addr).add j) = some u) := fun j u h => new4q w5 (⟨⟨1, 0, x.i.p, 0⟩, x.ao, x.cap⟩ : Qv) _ j u h
    have PL : Hid (∀ u ∈ ([.int .i64 1, .int .i64 0, .slice x.ao x.i.p.length x.cap, .int .i64 0] : List Value), u.oneCell' = true) := plain4q (⟨⟨1, 0, x.i.p, 0⟩, x.ao, x.cap⟩ : Qv)
    have hsz : w0.heap.size + 1 ≤ w5.heap.size := S5.out.lt
    obtain ⟨so, cap, r5, _, _, _⟩ := S5.out.box
    have rc1 := r5.c1
    have rf1 := r5.f 1
    clear r5
    go_wp2_with fail
    go_region_law ((refine step_append_lies _ (by rfl) _ _ _ (by rfl) (w0.heap.size + 1) 36 i0 (.agg #[.int .i64 0, .int .i64 0, .slice none 0 0, .int .i64 0]) 4 48 Tryz.underlying23 hi0 hz0 hz1 hz2 (by rfl) (by decide) v m (qkc L) (by simp [Act.eval]) ((OW.out.alloc _).drew) ⟨w5.heap.size, 0, none⟩ 1 1 ([.int .i64 1, .int .i64 0, .slice x.ao x.i.p.length x.cap, .int .i64 0] : List Value) (by simp [Act.eval]) (by rfl) (fun j u h => NW.out j u h) (PL.out) (by omega) (by unfold maxLen; omega) (by omega) (by simp; omega) _ (by rfl) ?_; intro g cp w9 hown9 hgrow hat hlt9; obtain ⟨q0, q1, hq9⟩ := HST.out w9 g cp hown9 (gr_undrew hgrow); have T9 : Hid _ := hq9; clear hq9 hown9 hgrow hat hlt9))

    all_goals
      go_wp2_with fail
      go_ret
      rw [HRES.out]
      refine ⟨rfl, ⟨_, _, T9.out.1, T9.out.2, ?_⟩, ?_⟩
      · rw [qis_snoc, HQ.out, Qt.flat0, ← HX.out]
      · have := HC.out
        rw [List.length_append, Qt.flat0, List.length_singleton]
        omega

end Cls

end Go.Proofs.YtbnnobeahliffaaGreatDoor

set_option linter.unusedVariables false
namespace Go.Proofs.YtbnnobeahliffaaGreatDoor
open Go.RowKit
namespace Cls

/-- How many tokens a reader has left. -/
def tleft (w0 w : World) : Nat := match w.cell? ⟨w0.heap.size, 0, none⟩ with
  | some (.slice _ n _) => n
  | _ => 0

theorem Sr.left {w0 w : World} {Y : List Tk} {v : Value} (h : Sr w0 w Y v) : tleft w0 w = Y.length := by
  obtain ⟨so, cap, r, _⟩ := h.box
  unfold tleft
  rw [r.c0]

theorem qkc_take (L : List Qv) (i : Nat) : (qkc L).take (i * 4) = qkc (L.take i) := by
  induction L generalizing i with
  | nil => simp [qkc]
  | cons x L ih =>
    cases i with
    | zero => simp [qkc]
    | succ i =>
      rw [List.take_succ_cons]
      show (x.four ++ qkc L).take _ = x.four ++ qkc (L.take i)
      rw [show (i + 1) * 4 = x.four.length + i * 4 by show _ = 4 + _; omega, List.take_length_add_append, ih]

theorem qkc_drop (L : List Qv) (i : Nat) : (qkc L).drop (i * 4) = qkc (L.drop i) := by
  induction L generalizing i with
  | nil => simp [qkc]
  | cons x L ih =>
    cases i with
    | zero => simp [qkc]
    | succ i =>
      rw [List.drop_succ_cons]
      show (x.four ++ qkc L).drop _ = qkc (L.drop i)
      rw [show (i + 1) * 4 = x.four.length + i * 4 by show _ = 4 + _; omega, List.drop_length_add_append, ih]

/-- The rest of a chain: where it stands, what it is to give. -/
structure Cz (w0 wr : World) (R : List Qn) (op : Nat) (sub : List Tk → Pr) (res : Pr) (N : Nat) (Y : List Tk) (pre : List Qn) (comb : Qt → Qt) (gg : List Tk → Nat) : Prop where
  st : St w0 wr Y (R ++ pre)
  flat : ∀ Z, (comb Z).flat = pre ++ Z.flat
  few : Y.length ≤ N
  room : ∀ Z r, sub Y = .ok (Z, r) → r.length ≤ gg r
  res : res = match sub Y with
    | .ok (Z, r) => chn op sub (gg r) (comb Z) r
    | .error r => .error r

/-- What stands behind a node put ahead of a chain. -/
theorem row_ins {w0 w3 w4 : World} {Y : List Tk} {R P : List Qn} {v v' : Value} {L : List Qv} {y : Qv} {g : Nat} (hs : Sr w0 w3 Y v) (hn : Stn w0 w3 v L) (hq : qis L = R ++ P) (hy : y.ok w0) (hg : v.ownBlock = some g) (w3' : World) (b3 : Below w3.heap.size w3 w3')
    (ho : w4.ownsRow (w0.heap.size + 1) 36 4 v' (L.length + 1) ((qkc L).take (R.length * 4) ++ y.four ++ (qkc L).drop (R.length * 4))) (hf : Fr (fun k => k ≠ g) w3' w4) :
    w4.cell? ⟨w0.heap.size, 1, none⟩ = some v ∧ w4.frozen? ⟨w0.heap.size, 1, none⟩ = false ∧ Sr w0 (w4.setCell ⟨w0.heap.size, 1, none⟩ v') Y v' ∧ ∃ L', Stn w0 (w4.setCell ⟨w0.heap.size, 1, none⟩ v') v' L' ∧ qis L' = R ++ (y.i :: P) := by
  have hlow := own_low hn.own g hg
  have s1 := (hs.grow b3).kept hf (fun k hk => by omega)
  obtain ⟨so, cap, r, _⟩ := s1.box
  have hl : (qis L).length = R.length + P.length := by rw [hq, List.length_append]
  rw [qis_len] at hl
  have e1 : qis (L.take R.length) = R := by
    unfold qis at hq ⊢
    rw [List.map_take, hq, List.take_left' rfl]
  have e2 : qis (L.drop R.length) = P := by
    unfold qis at hq ⊢
    rw [List.map_drop, hq, List.drop_left' rfl]
  refine ⟨r.c1, r.f 1, s1.put1 v', L.take R.length ++ (y :: L.drop R.length), ⟨?_, ?_⟩, ?_⟩
  · have hlen : (L.take R.length ++ (y :: L.drop R.length)).length = L.length + 1 := by
      rw [List.length_append, List.length_cons, List.length_take, List.length_drop]
      omega
    rw [hlen]
    rw [qkc_take, qkc_drop] at ho
    have hk : qkc (L.take R.length ++ (y :: L.drop R.length)) = qkc (L.take R.length) ++ y.four ++ qkc (L.drop R.length) := by
      rw [qkc_append, List.append_assoc]
      rfl
    rw [hk]
    exact owns_fr ho ((Fr.refl (fun k => k ≠ w0.heap.size) w4).setCell (by simp) v') (fun j hj => by omega)
  · intro x hx
    rcases List.mem_append.1 hx with hx | hx
    · exact hn.ok x (List.mem_of_mem_take hx)
    · rcases List.mem_cons.1 hx with rfl | hx
      · exact hy
      · exact hn.ok x (List.mem_of_mem_drop hx)
  · unfold qis at e1 e2 ⊢
    rw [List.map_append, List.map_cons, e1, e2]

set_option maxRecDepth 100000 in
set_option maxHeartbeats 1000000 in
theorem rrow_any (F : Nat) (hE : ∀ (args : Array Value) (w : World), (callFunc F args).run Tryz.prog w = .ok (.enter F args) w) (w0 : World) (op : Nat) (kd : Int) (hop : 1 ≤ op ∧ op ≤ 8) (hkd : kd = (op : Int) - 1) (sub : List Tk → Pr) (hsub : ∀ L, rst (sub L) <:+ L) (N : Nat)
    (hF : ∀ (w : World) (Y : List Tk) (R : List Qn), Y.length ≤ N → St w0 w Y R → Calls Tryz.prog F #[.pointer (some ⟨w0.heap.size, 0, none⟩)] w fun e w' => Ro w0 R w' (sub Y) e)
    (w : World) (Y : List Tk) (R : List Qn) (hN : Y.length ≤ N) (h : St w0 w Y R) (res : Pr) (hres : res = match sub Y with
      | .ok (X, r) => chn op sub r.length X r
      | .error r => .error r) :
    Calls Tryz.prog 60 #[.pointer (some ⟨w0.heap.size, 0, none⟩), .func (.func F) #[.pointer (some ⟨w0.heap.size, 0, none⟩)] #[], .int .i64 (op : Int), .int .i64 kd] w fun e w' => Ro w0 R w' res e := by
  have HF : Hid _ := hF
  have HKD : Hid (kd = (op : Int) - 1) := hkd
  have HSB : Hid _ := hsub
  have hfd := tfield0
  have HST : Hid (∃ Y' pre comb gg, Cz w0 w R op sub res N Y' pre comb gg) := ⟨Y, [], id, fun r => r.length, by rw [List.append_nil]; exact h, fun Z => rfl, hN, fun Z r _ => Nat.le_refl _, hres⟩
  obtain ⟨v, L, hs, hn, hq⟩ := h.1
  have hRl : L.length = R.length := by rw [← hq, qis_len]
  have hcnt := h.2
  obtain ⟨so, cap, r5, _⟩ := hs.box
  have c1 := r5.c1
  obtain ⟨lo, lc, rfl⟩ : ∃ lo lc, v = .slice lo L.length lc := by
    obtain ⟨_, ⟨e, e2⟩ | ⟨g, cap, cur, e, _⟩⟩ := hn.own
    · exact ⟨none, 0, by rw [e, e2]⟩
    · exact ⟨_, _, e⟩
  rw [hRl] at c1
  obtain ⟨i, hi⟩ : ∃ i, R.length = i := ⟨_, rfl⟩
  rw [hi] at c1
  have HI : Hid (R.length = i) := hi
  have hi9 : i ≤ 100000 := by omega
  clear hkd hF hsub hs hn hq hRl hcnt r5 h hN hres hi
  go_enter Tryz.func60, Tryz.ntmps60
  go_wp2_with fail
  clear c1
  go_loopw [16] (fun _ wr => ∃ Y' pre comb gg, Cz w0 wr R op sub res N Y' pre comb gg) (fun _ wr => tleft w0 wr)
  case atStart => exact HST.out
  case round =>
    obtain ⟨Y', pre, comb, gg, hz⟩ := hrel
    have HZ : Hid _ := hz
    have CF : Hid _ := HF.out wr Y' (R ++ pre) hz.few hz.st
    have HT : Hid (tleft w0 wr = Y'.length) := by
      obtain ⟨⟨v, L, hs, _⟩, _⟩ := hz.st
      exact hs.left
    have hres := hz.res
    cases hsy : sub Y' with
    | error r =>
      rw [hsy] at CF hres
      have HRES : Hid (res = .error r) := hres
      clear hz hres hsy
      go_wp2_with fail
      refine Calls.mono CF.out ?_; rintro e w1 ⟨rfl, hs1⟩
      have H1 : Hid _ := hs1
      clear hs1 CF
      go_wp2_with fail
      go_ret
      rw [HRES.out]
      exact ⟨rfl, H1.out⟩
    | ok zr =>
      obtain ⟨Z, r⟩ := zr
      rw [hsy] at CF hres
      have hres2 : res = chn op sub (gg r) (comb Z) r := hres
      have hroom := hz.room Z r hsy
      have hfl : pre ++ Z.flat = (comb Z).flat := (hz.flat Z).symm
      have hrl : r.length ≤ Y'.length := by have := HSB.out Y'; rw [hsy] at this; exact this.length_le
      have hfew := hz.few
      by_cases hk : knq r = op
      · obtain ⟨t, r', rfl⟩ : ∃ t r', r = t :: r' := by
          cases r with
          | nil => exact absurd (show 0 = op from hk) (by omega)
          | cons t r' => exact ⟨t, r', rfl⟩
        have hk2 : t.kind = op := hk
        rw [List.length_cons] at hroom hrl
        obtain ⟨g', hg'⟩ : ∃ g', gg (t :: r') = g' + 1 := ⟨gg (t :: r') - 1, by omega⟩
        have HZ2 : Hid (∀ wz, St w0 wz r' (R ++ (⟨kd, 0, [], 0⟩ :: (comb Z).flat)) → ∃ Y' pre comb gg, Cz w0 wz R op sub res N Y' pre comb gg) := fun wz hst => by
          refine ⟨r', ⟨kd, 0, [], 0⟩ :: (comb Z).flat, fun Z2 => ⟨⟨(op : Int) - 1, 0, [], 0⟩, [comb Z, Z2]⟩, fun _ => g', ⟨hst, fun Z2 => by rw [Qt.flat2, HKD.out]; rfl, by omega, fun Z2 r2 h2 => ?_, ?_⟩⟩
          · have := HSB.out r'
            rw [h2] at this
            have := this.length_le
            simp only [rst] at this
            omega
          · rw [hres2, hg', chn, if_pos hk2]
            rcases sub r' with _ | ⟨_, _⟩ <;> rfl
        clear hz hres hres2 hsy hfew
        go_wp2_with fail
        refine Calls.mono CF.out ?_; rintro e w1 ⟨rfl, hs1⟩
        obtain ⟨⟨v, L, hs, hn, hq⟩, hcnt⟩ := hs1
        rw [List.append_assoc, hfl] at hq
        have HQ : Hid _ := hq
        have HFL : Hid _ := hfl
        have HRL : Hid _ := hrl
        have HS1 : Hid _ := hs
        have HN1 : Hid _ := hn
        have HC : Hid _ := hcnt
        have CN : Hid _ := next_any w0 w1 (t :: r') v hs
        clear hs hn hq hcnt CF
        go_wp2_with fail
        refine Calls.mono CN.out ?_; rintro e w2 ⟨⟨x, rfl, hxi, hxo⟩, b2⟩
        have hx2 : x.i.kind = (op : Int) := by rw [hxi]; show (t.kind : Int) = _; rw [hk2]
        unfold Tv.val
        rw [hx2]
        have HS2 : Hid _ := HS1.out.grow b2
        have HN2 : Hid _ := HN1.out.grow b2
        have CS : Hid _ := step_any w0 w2 t r' v HS2.out
        clear hx2 hxi hxo b2 HS1 HN1 CN
        go_wp2_with fail
        refine Calls.mono CS.out ?_; rintro e w3 ⟨rfl, hs3, hf3⟩
        have HS3 : Hid _ := hs3
        have HN3 : Hid _ := HN2.out.kept hf3
        clear hs3 hf3 CS HS2 HN2
        obtain ⟨so, cap, r5, _, _, _⟩ := HS3.out.box
        have rc1 := r5.c1
        have rf1 := r5.f 1
        have hl03 : w0.heap.size < w3.heap.size := r5.lt
        clear r5
        have hqp : L.length = i + (comb Z).flat.length := by have := congrArg List.length HQ.out; rw [qis_len, List.length_append, HI.out] at this; exact this
        have hcp : 1 ≤ (comb Z).flat.length := (comb Z).flat_pos
        have hL9 : L.length ≤ 100000 := by
          have := HC.out
          rw [List.append_assoc, hfl, List.length_append, HI.out] at this
          omega
        obtain ⟨m, hm⟩ : ∃ m, L.length = m := ⟨_, rfl⟩
        have HM : Hid (L.length = m) := hm
        have ho3 := HN3.out.own
        rw [hm] at ho3 hqp hL9
        have him : i < m := by omega
        obtain ⟨g, c, rfl, hg1, hg2, hg3, hg4, _, _, _⟩ := own_at ho3 (by omega)
        have hc63 : c ≤ 9223372036854775807 := by unfold maxLen at hg4; omega
        have CI : Hid (Calls Tryz.prog 79 #[.slice (some ⟨g, 0, none⟩) m c, .int .i64 (i : Int), .slice (some ⟨w3.heap.size, 0, none⟩) 1 1] (w3.alloc (.cells #[.int .i64 kd, .int .i64 0, .slice none 0 0, .int .i64 0] 36)) fun e w' =>
            ∃ g' c', e = .returned (.slice (some ⟨g', 0, none⟩) (m + 1) c') ∧ w'.ownsRow (w0.heap.size + 1) 36 4 (.slice (some ⟨g', 0, none⟩) (m + 1) c') (m + 1) ((qkc L).take (i * 4) ++ [.int .i64 kd, .int .i64 0, .slice none 0 0, .int .i64 0] ++ (qkc L).drop (i * 4)) ∧ Fr (fun k => k ≠ g) (w3.alloc (.cells #[.int .i64 kd, .int .i64 0, .slice none 0 0, .int .i64 0] 36)) w') :=
          insert_any m i c g w3.heap.size (w0.heap.size + 1) (qkc L) [.int .i64 kd, .int .i64 0, .slice none 0 0, .int .i64 0] _ (ho3.alloc _) him (by omega) hc63 (by rw [al_size]; omega) (qkc_plain L) rfl
            (fun j u h => by have := new4q w3 ⟨⟨kd, 0, [], 0⟩, none, 0⟩ 36 j u h; rw [add_none, Nat.zero_add] at this; exact this) (plain4q ⟨⟨kd, 0, [], 0⟩, none, 0⟩) (by omega) (by unfold World.shape?; rw [World.alloc_heap_new]; rfl) (fun t => World.frozen?_alloc_at _ _ _ _ rfl)
        clear hqp hm ho3 hg1 hg3 hg4 hrl hcp hroom hfl
        go_wp2_with fail
        refine Calls.mono CI.out ?_; rintro e w4 ⟨g4, c4, rfl, ho4, hf4⟩
        obtain ⟨q0, q1, hs5, L5, hn5, hq5⟩ := row_ins (y := ⟨⟨kd, 0, [], 0⟩, none, 0⟩) HS3.out HN3.out HQ.out (lf_none _ _) rfl _ (al_below _ _) (by rw [HI.out, HM.out]; exact ho4) hf4
        have HS5 : Hid _ := hs5
        have HN5 : Hid _ := hn5
        have HQ5 : Hid _ := hq5
        clear hs5 hn5 hq5 ho4 hf4 CI rc1 rf1
        go_wp2_with fail
        go_roundw
        case rel =>
          refine HZ2.out _ ⟨⟨_, _, HS5.out, HN5.out, HQ5.out⟩, ?_⟩
          have := HC.out
          rw [List.append_assoc, HFL.out] at this
          simp only [List.length_append, List.length_cons] at this ⊢
          omega
        case measure =>
          have := HRL.out
          rw [HT.out, HS5.out.left]
          omega
      · have hres3 : res = .ok (comb Z, r) := by
          rw [hres2]
          refine chn_end ?_
          cases r with
          | nil => trivial
          | cons t r' => exact hk
        have HRES : Hid _ := hres3
        clear hz hres hres2 hsy hres3 hfew
        go_wp2_with fail
        refine Calls.mono CF.out ?_; rintro e w1 ⟨rfl, hs1⟩
        obtain ⟨⟨v, L, hs, hn, hq⟩, hcnt⟩ := hs1
        rw [List.append_assoc, hfl] at hq hcnt
        have HQ : Hid _ := hq
        have HS1 : Hid _ := hs
        have HN1 : Hid _ := hn
        have HC : Hid _ := hcnt
        have CN : Hid _ := next_any w0 w1 r v hs
        clear hs hn hq hcnt CF
        go_wp2_with fail
        refine Calls.mono CN.out ?_; rintro e w2 ⟨⟨x, rfl, hxi, hxo⟩, b2⟩
        have hx2 : (x.i.kind == (op : Int)) = false := by rw [hxi, nti_kind, beq_eq_false_iff_ne]; omega
        have hx3 : ¬ x.i.kind = (op : Int) := by rw [hxi, nti_kind]; omega
        unfold Tv.val
        have HS2 : Hid _ := HS1.out.grow b2
        have HN2 : Hid _ := HN1.out.grow b2
        clear hxi hxo b2 HS1 HN1 CN
        generalize x.i.kind = xk at *
        go_wp2_with fail
        go_ret
        rw [HRES.out]
        exact ⟨rfl, ⟨_, _, HS2.out, HN2.out, HQ.out⟩, HC.out⟩

end Cls

end Go.Proofs.YtbnnobeahliffaaGreatDoor

set_option linter.unusedVariables false
namespace Go.Proofs.YtbnnobeahliffaaGreatDoor
open Go.RowKit
namespace Cls

theorem itq_open (f : Nat) (t : Tk) (Y : List Tk) (ht : t.kind = 1) : itq (f + 1) (t :: Y) = match qry (itq f) Y with
      | .error r => .error r
      | .ok (X, r) => if (clq r).1 = true then .ok (X, (clq r).2) else .error (clq r).2 := by
  rw [itq_step, if_neg (by omega), if_neg (by omega), if_neg (by omega), if_pos ht]
  rcases qry (itq f) Y with r | ⟨X, r⟩
  · rfl
  · cases r with
    | nil => rfl
    | cons u r =>
      simp only
      by_cases hu : u.kind = 2
      · have e : clq (u :: r) = (true, r) := by unfold clq; simp only; rw [if_pos hu]
        rw [e, if_pos hu]
        rfl
      · have e : clq (u :: r) = (false, u :: r) := by unfold clq; simp only; rw [if_neg hu]
        rw [e, if_neg hu]
        rfl

theorem clq_le (r : List Tk) : (clq r).2.length ≤ r.length := by
  cases r with
  | nil => exact Nat.le_refl _
  | cons u r =>
    unfold clq
    simp only
    split
    · show r.length ≤ _; rw [List.length_cons]; omega
    · exact Nat.le_refl _

/-- Readers of items do, at fuel f. -/
def Itf (w0 : World) (f : Nat) : Prop := ∀ (w : World) (Y : List Tk) (R : List Qn), Y.length ≤ f → St w0 w Y R → Calls Tryz.prog 38 #[.pointer (some ⟨w0.heap.size, 0, none⟩)] w fun e w' => Ro w0 R w' (itq f Y) e

theorem ro_bool {w0 w' : World} {R : List Qn} {res : Pr} {e : Ending} (h : Ro w0 R w' res e) : ∃ b, e = .returned (.bool b) := by
  cases res with
  | error r => exact ⟨_, h.1⟩
  | ok x => exact ⟨_, h.1⟩

set_option maxRecDepth 100000 in
set_option maxHeartbeats 1000000 in
theorem rpart_any (w0 : World) (f : Nat) (hI : Itf w0 f) (w : World) (Y : List Tk) (R : List Qn) (hN : Y.length ≤ f) (h : St w0 w Y R) :
    Calls Tryz.prog 37 #[.pointer (some ⟨w0.heap.size, 0, none⟩)] w fun e w' => Ro w0 R w' (paq (itq f) Y) e := by
  have CR : Hid (Calls Tryz.prog 60 #[.pointer (some ⟨w0.heap.size, 0, none⟩), .func (.func 38) #[.pointer (some ⟨w0.heap.size, 0, none⟩)] #[], .int .i64 3, .int .i64 2] w fun e w' => Ro w0 R w' (paq (itq f) Y) e) :=
    rrow_any 38 (fun args w => run_enter Tryz.func38 (by kernel_rfl) (by kernel_rfl) args w) w0 3 2 (by omega) rfl (itq f) (itq_suf f) f hI w Y R hN h _ rfl
  obtain ⟨v, L, hs, _⟩ := h.1
  obtain ⟨so, cap, r5, _⟩ := hs.box
  have c4 := r5.c4
  generalize paq (itq f) Y = res at *
  clear hs r5 h hI hN
  go_enter Tryz.func37, Tryz.ntmps37
  go_wp2_with fail
  refine Calls.mono CR.out ?_; intro e w1 hro
  obtain ⟨b, rfl⟩ := ro_bool hro
  have HR : Hid _ := hro
  clear hro CR
  go_wp2_with fail
  go_ret
  exact HR.out

set_option maxRecDepth 100000 in
set_option maxHeartbeats 1000000 in
theorem rquery_any (w0 : World) (f : Nat) (hI : Itf w0 f) (w : World) (Y : List Tk) (R : List Qn) (hN : Y.length ≤ f) (h : St w0 w Y R) :
    Calls Tryz.prog 36 #[.pointer (some ⟨w0.heap.size, 0, none⟩)] w fun e w' => Ro w0 R w' (qry (itq f) Y) e := by
  have CR : Hid (Calls Tryz.prog 60 #[.pointer (some ⟨w0.heap.size, 0, none⟩), .func (.func 37) #[.pointer (some ⟨w0.heap.size, 0, none⟩)] #[], .int .i64 4, .int .i64 3] w fun e w' => Ro w0 R w' (qry (itq f) Y) e) :=
    rrow_any 37 (fun args w => run_enter Tryz.func37 (by kernel_rfl) (by kernel_rfl) args w) w0 4 3 (by omega) rfl (paq (itq f)) (paq_suf (itq_suf f)) f (rpart_any w0 f hI) w Y R hN h _ rfl
  obtain ⟨v, L, hs, _⟩ := h.1
  obtain ⟨so, cap, r5, _⟩ := hs.box
  have c3 := r5.c3
  generalize qry (itq f) Y = res at *
  clear hs r5 h hI hN
  go_enter Tryz.func36, Tryz.ntmps36
  go_wp2_with fail
  refine Calls.mono CR.out ?_; intro e w1 hro
  obtain ⟨b, rfl⟩ := ro_bool hro
  have HR : Hid _ := hro
  clear hro CR
  go_wp2_with fail
  go_ret
  exact HR.out

/-- A node ahead of what is read. -/
def upq (nd : Qn) : Pr → Pr
  | .ok (X, r) => .ok (⟨nd, [X]⟩, r)
  | .error r => .error r

theorem ro_up {w0 w' : World} {R : List Qn} {nd : Qn} {res : Pr} {e : Ending} (h : Ro w0 (R ++ [nd]) w' res e) : Ro w0 R w' (upq nd res) e := by
  rcases res with r | ⟨X, r⟩
  · exact h
  · refine ⟨h.1, ?_⟩
    have h2 : St w0 w' r ((R ++ [nd]) ++ X.flat) := h.2
    rw [List.append_assoc] at h2
    rw [Qt.flat1]
    exact h2

theorem itq_not (f : Nat) (t : Tk) (Y : List Tk) (ht : t.kind = 5) : itq (f + 1) (t :: Y) = upq ⟨4, 0, [], 0⟩ (itq f Y) := by
  rw [itq_step, if_pos ht]
  rcases itq f Y with _ | ⟨_, _⟩ <;> rfl

theorem itq_shift (f : Nat) (t : Tk) (Y : List Tk) (ht : t.kind = 6) : itq (f + 1) (t :: Y) = upq ⟨5, (t.n : Int), [], 0⟩ (itq f Y) := by
  rw [itq_step, if_neg (by omega), if_pos ht]
  rcases itq f Y with _ | ⟨_, _⟩ <;> rfl


set_option maxRecDepth 100000 in
set_option maxHeartbeats 1000000 in
theorem ritem_end (w0 w : World) (f : Nat) (Y : List Tk) (R : List Qn) (h5 : knq Y ≠ 5) (h6 : knq Y ≠ 6) (h1 : knq Y ≠ 1) (h8 : knq Y ≠ 8) (h : St w0 w Y R) :
    Calls Tryz.prog 38 #[.pointer (some ⟨w0.heap.size, 0, none⟩)] w fun e w' => Ro w0 R w' (.error Y) e := by
  obtain ⟨v, L, hs, hn, hq⟩ := h.1
  have hfd := tfield0
  have CN : Hid _ := next_any w0 w Y v hs
  have HS : Hid _ := hs
  have HN : Hid _ := hn
  have q5 : ((knq Y : Int) == 5) = false := by rw [beq_eq_false_iff_ne]; omega
  have q6 : ((knq Y : Int) == 6) = false := by rw [beq_eq_false_iff_ne]; omega
  have q1 : ((knq Y : Int) == 1) = false := by rw [beq_eq_false_iff_ne]; omega
  have q8 : ((knq Y : Int) == 8) = false := by rw [beq_eq_false_iff_ne]; omega
  clear hs hn hq h
  go_enter Tryz.func38, Tryz.ntmps38
  go_wp2_with fail
  refine Calls.mono CN.out ?_; rintro e w1 ⟨⟨x, rfl, hxi, hxo⟩, b1⟩
  unfold Tv.val
  have hxk : x.i.kind = (knq Y : Int) := by rw [hxi, nti_kind]; skip
  obtain ⟨w2, e2⟩ : ∃ w2, w2 = w1.alloc (.cells #[.int .i64 x.i.kind, .int .i64 x.i.at', .int .i64 x.i.n, .slice x.ao x.i.p.length x.cap] 76) := ⟨_, rfl⟩
  have b2 : Below w1.heap.size w1 w2 := by rw [e2]; exact al_below _ _
  obtain ⟨a0, a1, a2, a3⟩ : K4 w2 w1.heap.size (.int .i64 x.i.kind) (.int .i64 x.i.at') (.int .i64 x.i.n) (.slice x.ao x.i.p.length x.cap) := by rw [e2]; exact k4_new _ _ _ _ _ _
  have S2 : Hid _ := (HS.out.grow b1).grow b2
  have N2 : Hid _ := (HN.out.grow b1).grow b2
  have hl12 : w1.heap.size < w2.heap.size := by rw [e2, al_size]; omega
  have hl01 : w0.heap.size < w1.heap.size := by have := HS.out.lt; have := b1.size; omega
  have KX : Hid (K4 w2 w1.heap.size (.int .i64 x.i.kind) (.int .i64 x.i.at') (.int .i64 x.i.n) (.slice x.ao x.i.p.length x.cap)) := ⟨a0, a1, a2, a3⟩
  rw [hxk] at a0 e2
  have E2 : Hid _ := e2
  generalize (knq Y : Int) = kn at *
  clear h5 h6 h1 h8
  clear e2 b1 b2 hxi hxo CN HS HN
  go_wp2_with (first | rw [← E2.out])
  go_ret
  exact ⟨rfl, _, S2.out⟩

set_option maxRecDepth 100000 in
set_option maxHeartbeats 1000000 in
theorem ritem_not (w0 w : World) (f : Nat) (hI : Itf w0 f) (t : Tk) (Y : List Tk) (R : List Qn) (ht : t.kind = 5) (hN : Y.length ≤ f) (h : St w0 w (t :: Y) R) :
    Calls Tryz.prog 38 #[.pointer (some ⟨w0.heap.size, 0, none⟩)] w fun e w' => Ro w0 R w' (itq (f + 1) (t :: Y)) e := by
  obtain ⟨i0, hi0, hz0, hz1, hz2⟩ := infoQ
  obtain ⟨v, L, hs, hn, hq⟩ := h.1
  have hcnt := h.2
  rw [List.length_cons] at hcnt
  have hRl : R.length = L.length := by rw [← hq, qis_len]
  rw [itq_not f t Y ht]
  have HI : Hid _ := hI
  have HNF : Hid (Y.length ≤ f) := hN
  have HC : Hid (R.length + (Y.length + 1) ≤ 100000) := hcnt
  have HQ : Hid (qis L = R) := hq
  obtain ⟨m, hm⟩ : ∃ m, L.length = m := ⟨_, rfl⟩
  have HM : Hid (L.length = m) := hm
  have hm9 : m ≤ 100000 := by omega
  have hfd := tfield0
  have CN : Hid _ := next_any w0 w (t :: Y) v hs
  have HS : Hid _ := hs
  have HN : Hid _ := hn
  have hk0 : knq (t :: Y) = 5 := ht
  obtain ⟨tn, htn⟩ : ∃ tn : Int, tn = (t.n : Int) := ⟨_, rfl⟩
  have HTN : Hid ((nti (t :: Y)).n = tn) := by show _ = _; rw [htn]; rfl
  
  obtain ⟨res, hgi⟩ : ∃ res, res = upq ⟨4, 0, [], 0⟩ (itq f Y) := ⟨_, rfl⟩
  rw [← hgi]
  have HRS : Hid (∀ w' e, Ro w0 (R ++ [⟨4, 0, [], 0⟩]) w' (itq f Y) e → Ro w0 R w' res e) := fun w' e hh => by rw [hgi]; exact ro_up hh
  clear hgi hs hn hq h hI hN hcnt hRl hm htn
  go_enter Tryz.func38, Tryz.ntmps38
  go_wp2_with fail
  refine Calls.mono CN.out ?_; rintro e w1 ⟨⟨x, rfl, hxi, hxo⟩, b1⟩
  unfold Tv.val
  have hxk : x.i.kind = 5 := by rw [hxi, nti_kind]; rw [hk0]; rfl
  have hxn : x.i.n = tn := by rw [hxi]; exact HTN.out
  obtain ⟨w2, e2⟩ : ∃ w2, w2 = w1.alloc (.cells #[.int .i64 x.i.kind, .int .i64 x.i.at', .int .i64 x.i.n, .slice x.ao x.i.p.length x.cap] 76) := ⟨_, rfl⟩
  have b2 : Below w1.heap.size w1 w2 := by rw [e2]; exact al_below _ _
  obtain ⟨a0, a1, a2, a3⟩ : K4 w2 w1.heap.size (.int .i64 x.i.kind) (.int .i64 x.i.at') (.int .i64 x.i.n) (.slice x.ao x.i.p.length x.cap) := by rw [e2]; exact k4_new _ _ _ _ _ _
  have S2 : Hid _ := (HS.out.grow b1).grow b2
  have N2 : Hid _ := (HN.out.grow b1).grow b2
  have hl12 : w1.heap.size < w2.heap.size := by rw [e2, al_size]; omega
  have hl01 : w0.heap.size < w1.heap.size := by have := HS.out.lt; have := b1.size; omega
  have KX : Hid (K4 w2 w1.heap.size (.int .i64 x.i.kind) (.int .i64 x.i.at') (.int .i64 x.i.n) (.slice x.ao x.i.p.length x.cap)) := ⟨a0, a1, a2, a3⟩
  rw [hxk] at a0 e2
  rw [hxn] at a2 e2
  have E2 : Hid _ := e2
  rw [hxk, hxn]
  clear e2 b1 b2 hxi hxo CN HS HN
  have CS : Hid _ := step_any w0 w2 t Y v S2.out
  have HXN : Hid (x.i.n = tn) := hxn
  clear hk0 ht hxk hxn
  go_wp2_with (first | rw [← E2.out])
  refine Calls.mono CS.out ?_; rintro e w3 ⟨rfl, hs3, hf3⟩
  have S3 : Hid _ := hs3
  have N3 : Hid _ := N2.out.kept hf3
  clear a0 a1 a2 a3
  have a2 : w3.cell? ⟨w1.heap.size, 2, none⟩ = some (.int .i64 tn) := (hf3.cell (p := ⟨w1.heap.size, 2, none⟩) (by simp; omega) hl12).trans (KX.out.c2.trans (by rw [HXN.out]))
  have hl13 : w1.heap.size < w3.heap.size := Nat.lt_of_lt_of_le hl12 hf3.size
  clear hs3 hf3 S2 N2 CS E2 KX
  have HST : Hid (∀ w9 g cp, w9.ownsRow (w0.heap.size + 1) 36 4 (.slice (some ⟨g, 0, none⟩) (m + 1) cp) (m + 1) (qkc L ++ ([.int .i64 4, .int .i64 0, .slice none 0 0, .int .i64 0] : List Value)) → (w3.alloc (.cells #[.int .i64 4, .int .i64 0, .slice none 0 0, .int .i64 0] 36)).grownBy w9 v.ownBlock → w9.cell? ⟨w0.heap.size, 1, none⟩ = some v ∧ w9.frozen? ⟨w0.heap.size, 1, none⟩ = false ∧ w9.cell? ⟨w0.heap.size, 4, none⟩ = some (.func (.func 38) #[.pointer (some ⟨w0.heap.size, 0, none⟩)] #[]) ∧ (Sr w0 (w9.setCell ⟨w0.heap.size, 1, none⟩ (.slice (some ⟨g, 0, none⟩) (m + 1) cp)) Y (.slice (some ⟨g, 0, none⟩) (m + 1) cp) ∧ Stn w0 (w9.setCell ⟨w0.heap.size, 1, none⟩ (.slice (some ⟨g, 0, none⟩) (m + 1) cp)) (.slice (some ⟨g, 0, none⟩) (m + 1) cp) (L ++ [(⟨⟨4, 0, [], 0⟩, none, 0⟩ : Qv)]))) := fun w9 g cp k1 k2 => by
    obtain ⟨h1, h2, h3, h4⟩ := st_app (y := (⟨⟨4, 0, [], 0⟩, none, 0⟩ : Qv)) S3.out (al_below _ _) N3.out (lf_none _ _) (by rw [HM.out]; exact k1) k2
    obtain ⟨so9, cap9, r9, _, _, _⟩ := h3.box
    have hw9 : Wrote (fun b t => b = w0.heap.size ∧ t = 1) w9 (w9.setCell ⟨w0.heap.size, 1, none⟩ (.slice (some ⟨g, 0, none⟩) (m + 1) cp)) := (Wrote.refl _ w9).setCell ⟨rfl, rfl⟩ _
    exact ⟨h1, h2, (hw9.cell _ _ (fun e => by omega)).symm.trans r9.c4, h3, h4⟩
  have OW : Hid (w3.ownsRow (w0.heap.size + 1) 36 4 v m (qkc L)) := by have := N3.out.own; rw [HM.out] at this; exact this
  have NW : Hid (∀ j u, ([.int .i64 4, .int .i64 0, .slice none 0 0, .int .i64 0] : List Value)[j]? = some u → (w3.alloc (.cells #[.int .i64 4, .int .i64 0, .slice none 0 0, .int .i64 0] 36)).cell? ((⟨w3.heap.size, 0, none⟩ : Addr).add j) = some u) := fun j u h => new4q w3 (⟨⟨4, 0, [], 0⟩, none, 0⟩ : Qv) _ j u h
  have PL : Hid (∀ u ∈ ([.int .i64 4, .int .i64 0, .slice none 0 0, .int .i64 0] : List Value), u.oneCell' = true) := plain4q (⟨⟨4, 0, [], 0⟩, none, 0⟩ : Qv)
  have hsz : w0.heap.size + 1 ≤ w3.heap.size := S3.out.lt
  have hl03 : w0.heap.size < w3.heap.size := S3.out.lt
  obtain ⟨so, cap, r5, _, _, _⟩ := S3.out.box
  have rc1 := r5.c1
  have rf1 := r5.f 1
  clear r5
  go_wp2_with (at_builtin; refine wpList_append_lies _ (by rfl) _ _ _ (by rfl) (w0.heap.size + 1) 36 i0 (.agg #[.int .i64 0, .int .i64 0, .slice none 0 0, .int .i64 0]) 4 48 Tryz.underlying23 hi0 hz0 hz1 hz2 (by rfl) (by decide) v m (qkc L) rfl (OW.out.alloc _) ⟨w3.heap.size, 0, none⟩ 1 1 ([.int .i64 4, .int .i64 0, .slice none 0 0, .int .i64 0] : List Value) rfl (by rfl) (fun j u h => NW.out j u h) (PL.out) (by omega) (by unfold maxLen; omega) (by omega) (by simp; omega) _ (by rfl) ?_; intro g cp w9 hown9 hgrow hat hlt9; obtain ⟨q0, q1, q4, hq9⟩ := HST.out w9 g cp hown9 (hgrow); have T9 : Hid _ := hq9; clear hq9 hown9 hgrow hat hlt9)
  all_goals
    have hst : St w0 _ Y (R ++ [⟨4, 0, [], 0⟩]) := ⟨⟨_, _, T9.out.1, T9.out.2, by rw [qis_snoc, HQ.out]⟩, by have := HC.out; rw [List.length_append, List.length_singleton]; omega⟩
    have CI : Hid _ := HI.out _ Y _ HNF.out hst
    clear hst rc1 rf1 q0 q1 HST OW NW PL S3 N3 a2
    go_wp2_with fail
    refine Calls.mono CI.out ?_; intro e w5 hro
    obtain ⟨b, rfl⟩ := ro_bool hro
    have HR : Hid _ := HRS.out _ _ hro
    clear hro CI
    go_wp2_with fail
    go_ret
    exact HR.out

set_option maxRecDepth 100000 in
set_option maxHeartbeats 1000000 in
theorem ritem_shift (w0 w : World) (f : Nat) (hI : Itf w0 f) (t : Tk) (Y : List Tk) (R : List Qn) (ht : t.kind = 6) (hN : Y.length ≤ f) (h : St w0 w (t :: Y) R) :
    Calls Tryz.prog 38 #[.pointer (some ⟨w0.heap.size, 0, none⟩)] w fun e w' => Ro w0 R w' (itq (f + 1) (t :: Y)) e := by
  obtain ⟨i0, hi0, hz0, hz1, hz2⟩ := infoQ
  obtain ⟨v, L, hs, hn, hq⟩ := h.1
  have hcnt := h.2
  rw [List.length_cons] at hcnt
  have hRl : R.length = L.length := by rw [← hq, qis_len]
  rw [itq_shift f t Y ht]
  have HI : Hid _ := hI
  have HNF : Hid (Y.length ≤ f) := hN
  have HC : Hid (R.length + (Y.length + 1) ≤ 100000) := hcnt
  have HQ : Hid (qis L = R) := hq
  obtain ⟨m, hm⟩ : ∃ m, L.length = m := ⟨_, rfl⟩
  have HM : Hid (L.length = m) := hm
  have hm9 : m ≤ 100000 := by omega
  have hfd := tfield0
  have CN : Hid _ := next_any w0 w (t :: Y) v hs
  have HS : Hid _ := hs
  have HN : Hid _ := hn
  have hk0 : knq (t :: Y) = 6 := ht
  obtain ⟨tn, htn⟩ : ∃ tn : Int, tn = (t.n : Int) := ⟨_, rfl⟩
  have HTN : Hid ((nti (t :: Y)).n = tn) := by show _ = _; rw [htn]; rfl
  rw [← htn]
  obtain ⟨res, hgi⟩ : ∃ res, res = upq ⟨5, tn, [], 0⟩ (itq f Y) := ⟨_, rfl⟩
  rw [← hgi]
  have HRS : Hid (∀ w' e, Ro w0 (R ++ [⟨5, tn, [], 0⟩]) w' (itq f Y) e → Ro w0 R w' res e) := fun w' e hh => by rw [hgi]; exact ro_up hh
  clear hgi hs hn hq h hI hN hcnt hRl hm htn
  go_enter Tryz.func38, Tryz.ntmps38
  go_wp2_with fail
  refine Calls.mono CN.out ?_; rintro e w1 ⟨⟨x, rfl, hxi, hxo⟩, b1⟩
  unfold Tv.val
  have hxk : x.i.kind = 6 := by rw [hxi, nti_kind]; rw [hk0]; rfl
  have hxn : x.i.n = tn := by rw [hxi]; exact HTN.out
  obtain ⟨w2, e2⟩ : ∃ w2, w2 = w1.alloc (.cells #[.int .i64 x.i.kind, .int .i64 x.i.at', .int .i64 x.i.n, .slice x.ao x.i.p.length x.cap] 76) := ⟨_, rfl⟩
  have b2 : Below w1.heap.size w1 w2 := by rw [e2]; exact al_below _ _
  obtain ⟨a0, a1, a2, a3⟩ : K4 w2 w1.heap.size (.int .i64 x.i.kind) (.int .i64 x.i.at') (.int .i64 x.i.n) (.slice x.ao x.i.p.length x.cap) := by rw [e2]; exact k4_new _ _ _ _ _ _
  have S2 : Hid _ := (HS.out.grow b1).grow b2
  have N2 : Hid _ := (HN.out.grow b1).grow b2
  have hl12 : w1.heap.size < w2.heap.size := by rw [e2, al_size]; omega
  have hl01 : w0.heap.size < w1.heap.size := by have := HS.out.lt; have := b1.size; omega
  have KX : Hid (K4 w2 w1.heap.size (.int .i64 x.i.kind) (.int .i64 x.i.at') (.int .i64 x.i.n) (.slice x.ao x.i.p.length x.cap)) := ⟨a0, a1, a2, a3⟩
  rw [hxk] at a0 e2
  rw [hxn] at a2 e2
  have E2 : Hid _ := e2
  rw [hxk, hxn]
  clear e2 b1 b2 hxi hxo CN HS HN
  have CS : Hid _ := step_any w0 w2 t Y v S2.out
  have HXN : Hid (x.i.n = tn) := hxn
  clear hk0 ht hxk hxn
  go_wp2_with (first | rw [← E2.out])
  refine Calls.mono CS.out ?_; rintro e w3 ⟨rfl, hs3, hf3⟩
  have S3 : Hid _ := hs3
  have N3 : Hid _ := N2.out.kept hf3
  clear a0 a1 a2 a3
  have a2 : w3.cell? ⟨w1.heap.size, 2, none⟩ = some (.int .i64 tn) := (hf3.cell (p := ⟨w1.heap.size, 2, none⟩) (by simp; omega) hl12).trans (KX.out.c2.trans (by rw [HXN.out]))
  have hl13 : w1.heap.size < w3.heap.size := Nat.lt_of_lt_of_le hl12 hf3.size
  clear hs3 hf3 S2 N2 CS E2 KX
  have HST : Hid (∀ w9 g cp, w9.ownsRow (w0.heap.size + 1) 36 4 (.slice (some ⟨g, 0, none⟩) (m + 1) cp) (m + 1) (qkc L ++ ([.int .i64 5, .int .i64 tn, .slice none 0 0, .int .i64 0] : List Value)) → (w3.alloc (.cells #[.int .i64 5, .int .i64 tn, .slice none 0 0, .int .i64 0] 36)).grownBy w9 v.ownBlock → w9.cell? ⟨w0.heap.size, 1, none⟩ = some v ∧ w9.frozen? ⟨w0.heap.size, 1, none⟩ = false ∧ w9.cell? ⟨w0.heap.size, 4, none⟩ = some (.func (.func 38) #[.pointer (some ⟨w0.heap.size, 0, none⟩)] #[]) ∧ (Sr w0 (w9.setCell ⟨w0.heap.size, 1, none⟩ (.slice (some ⟨g, 0, none⟩) (m + 1) cp)) Y (.slice (some ⟨g, 0, none⟩) (m + 1) cp) ∧ Stn w0 (w9.setCell ⟨w0.heap.size, 1, none⟩ (.slice (some ⟨g, 0, none⟩) (m + 1) cp)) (.slice (some ⟨g, 0, none⟩) (m + 1) cp) (L ++ [(⟨⟨5, tn, [], 0⟩, none, 0⟩ : Qv)]))) := fun w9 g cp k1 k2 => by
    obtain ⟨h1, h2, h3, h4⟩ := st_app (y := (⟨⟨5, tn, [], 0⟩, none, 0⟩ : Qv)) S3.out (al_below _ _) N3.out (lf_none _ _) (by rw [HM.out]; exact k1) k2
    obtain ⟨so9, cap9, r9, _, _, _⟩ := h3.box
    have hw9 : Wrote (fun b t => b = w0.heap.size ∧ t = 1) w9 (w9.setCell ⟨w0.heap.size, 1, none⟩ (.slice (some ⟨g, 0, none⟩) (m + 1) cp)) := (Wrote.refl _ w9).setCell ⟨rfl, rfl⟩ _
    exact ⟨h1, h2, (hw9.cell _ _ (fun e => by omega)).symm.trans r9.c4, h3, h4⟩
  have OW : Hid (w3.ownsRow (w0.heap.size + 1) 36 4 v m (qkc L)) := by have := N3.out.own; rw [HM.out] at this; exact this
  have NW : Hid (∀ j u, ([.int .i64 5, .int .i64 tn, .slice none 0 0, .int .i64 0] : List Value)[j]? = some u → (w3.alloc (.cells #[.int .i64 5, .int .i64 tn, .slice none 0 0, .int .i64 0] 36)).cell? ((⟨w3.heap.size, 0, none⟩ : Addr).add j) = some u) := fun j u h => new4q w3 (⟨⟨5, tn, [], 0⟩, none, 0⟩ : Qv) _ j u h
  have PL : Hid (∀ u ∈ ([.int .i64 5, .int .i64 tn, .slice none 0 0, .int .i64 0] : List Value), u.oneCell' = true) := plain4q (⟨⟨5, tn, [], 0⟩, none, 0⟩ : Qv)
  have hsz : w0.heap.size + 1 ≤ w3.heap.size := S3.out.lt
  have hl03 : w0.heap.size < w3.heap.size := S3.out.lt
  obtain ⟨so, cap, r5, _, _, _⟩ := S3.out.box
  have rc1 := r5.c1
  have rf1 := r5.f 1
  clear r5
  go_wp2_with fail
  go_region_law ((refine step_append_lies _ (by rfl) _ _ _ (by rfl) (w0.heap.size + 1) 36 i0 (.agg #[.int .i64 0, .int .i64 0, .slice none 0 0, .int .i64 0]) 4 48 Tryz.underlying23 hi0 hz0 hz1 hz2 (by rfl) (by decide) v m (qkc L) (by simp [Act.eval]) ((OW.out.alloc _).drew) ⟨w3.heap.size, 0, none⟩ 1 1 ([.int .i64 5, .int .i64 tn, .slice none 0 0, .int .i64 0] : List Value) (by simp [Act.eval]) (by rfl) (fun j u h => NW.out j u h) (PL.out) (by omega) (by unfold maxLen; omega) (by omega) (by simp; omega) _ (by rfl) ?_; intro g cp w9 hown9 hgrow hat hlt9; obtain ⟨q0, q1, q4, hq9⟩ := HST.out w9 g cp hown9 (gr_undrew hgrow); have T9 : Hid _ := hq9; clear hq9 hown9 hgrow hat hlt9))
  all_goals
    have hst : St w0 _ Y (R ++ [⟨5, tn, [], 0⟩]) := ⟨⟨_, _, T9.out.1, T9.out.2, by rw [qis_snoc, HQ.out]⟩, by have := HC.out; rw [List.length_append, List.length_singleton]; omega⟩
    have CI : Hid _ := HI.out _ Y _ HNF.out hst
    clear hst rc1 rf1 q0 q1 HST OW NW PL S3 N3 a2
    go_wp2_with fail
    refine Calls.mono CI.out ?_; intro e w5 hro
    obtain ⟨b, rfl⟩ := ro_bool hro
    have HR : Hid _ := HRS.out _ _ hro
    clear hro CI
    go_wp2_with fail
    go_ret
    exact HR.out

set_option maxRecDepth 100000 in
set_option maxHeartbeats 1000000 in
theorem ritem_find (w0 w : World) (f : Nat) (t : Tk) (Y : List Tk) (R : List Qn) (ht : t.kind = 8) (h : St w0 w (t :: Y) R) :
    Calls Tryz.prog 38 #[.pointer (some ⟨w0.heap.size, 0, none⟩)] w fun e w' => Ro w0 R w' (itq (f + 1) (t :: Y)) e := by
  obtain ⟨v, L, hs, hn, hq⟩ := h.1
  have hcnt := h.2
  have HQ : Hid (qis L = R) := hq
  have HC : Hid (R.length + (t :: Y).length ≤ 100000) := hcnt
  have hfd := tfield0
  have CN : Hid _ := next_any w0 w (t :: Y) v hs
  have HS : Hid _ := hs
  have HN : Hid _ := hn
  have hk0 : knq (t :: Y) = 8 := ht
  have HF : Hid (∀ w, St w0 w (t :: Y) R → Calls Tryz.prog 64 #[.pointer (some ⟨w0.heap.size, 0, none⟩)] w fun e w' => Ro w0 R w' (itq (f + 1) (t :: Y)) e) := fun w hw => rfind_any w0 w t Y R f ht hw
  generalize itq (f + 1) (t :: Y) = res at *
  clear hs hn hq h hcnt
  go_enter Tryz.func38, Tryz.ntmps38
  go_wp2_with fail
  refine Calls.mono CN.out ?_; rintro e w1 ⟨⟨x, rfl, hxi, hxo⟩, b1⟩
  unfold Tv.val
  have hxk : x.i.kind = 8 := by rw [hxi, nti_kind]; rw [hk0]; rfl
  obtain ⟨w2, e2⟩ : ∃ w2, w2 = w1.alloc (.cells #[.int .i64 x.i.kind, .int .i64 x.i.at', .int .i64 x.i.n, .slice x.ao x.i.p.length x.cap] 76) := ⟨_, rfl⟩
  have b2 : Below w1.heap.size w1 w2 := by rw [e2]; exact al_below _ _
  obtain ⟨a0, a1, a2, a3⟩ : K4 w2 w1.heap.size (.int .i64 x.i.kind) (.int .i64 x.i.at') (.int .i64 x.i.n) (.slice x.ao x.i.p.length x.cap) := by rw [e2]; exact k4_new _ _ _ _ _ _
  have S2 : Hid _ := (HS.out.grow b1).grow b2
  have N2 : Hid _ := (HN.out.grow b1).grow b2
  have hl12 : w1.heap.size < w2.heap.size := by rw [e2, al_size]; omega
  have hl01 : w0.heap.size < w1.heap.size := by have := HS.out.lt; have := b1.size; omega
  have KX : Hid (K4 w2 w1.heap.size (.int .i64 x.i.kind) (.int .i64 x.i.at') (.int .i64 x.i.n) (.slice x.ao x.i.p.length x.cap)) := ⟨a0, a1, a2, a3⟩
  rw [hxk] at a0 e2
  have E2 : Hid _ := e2
  rw [hxk]
  clear e2 b1 b2 hxi hxo CN HS HN
  clear hk0 ht hxk KX
  have CF : Hid _ := HF.out w2 ⟨⟨_, _, S2.out, N2.out, HQ.out⟩, HC.out⟩
  go_wp2_with (first | rw [← E2.out])
  refine Calls.mono CF.out ?_; intro e w5 hro
  obtain ⟨b, rfl⟩ := ro_bool hro
  have HR : Hid _ := hro
  clear hro CF
  go_wp2_with fail
  go_ret
  exact HR.out

set_option maxRecDepth 100000 in
set_option maxHeartbeats 1000000 in
theorem ritem_open (w0 w : World) (f : Nat) (hI : Itf w0 f) (t : Tk) (Y : List Tk) (R : List Qn) (ht : t.kind = 1) (hN : Y.length ≤ f) (h : St w0 w (t :: Y) R) :
    Calls Tryz.prog 38 #[.pointer (some ⟨w0.heap.size, 0, none⟩)] w fun e w' => Ro w0 R w' (itq (f + 1) (t :: Y)) e := by
  obtain ⟨v, L, hs, hn, hq⟩ := h.1
  have hcnt := h.2
  have HQ : Hid (qis L = R) := hq
  have HC : Hid (R.length + (t :: Y).length ≤ 100000) := hcnt
  have hfd := tfield0
  have CN : Hid _ := next_any w0 w (t :: Y) v hs
  have HS : Hid _ := hs
  have HN : Hid _ := hn
  have hk0 : knq (t :: Y) = 1 := ht
  have HI : Hid (∀ w, St w0 w Y R → Calls Tryz.prog 36 #[.pointer (some ⟨w0.heap.size, 0, none⟩)] w fun e w' => Ro w0 R w' (qry (itq f) Y) e) := fun w hw => rquery_any w0 f hI w Y R hN hw
  have HRS : Hid (itq (f + 1) (t :: Y) = match qry (itq f) Y with
      | .error r => .error r
      | .ok (X, r) => if (clq r).1 = true then .ok (X, (clq r).2) else .error (clq r).2) := itq_open f t Y ht
  generalize itq (f + 1) (t :: Y) = res at *
  generalize qry (itq f) Y = qr at *
  clear hI hN
  clear hs hn hq h hcnt
  go_enter Tryz.func38, Tryz.ntmps38
  go_wp2_with fail
  refine Calls.mono CN.out ?_; rintro e w1 ⟨⟨x, rfl, hxi, hxo⟩, b1⟩
  unfold Tv.val
  have hxk : x.i.kind = 1 := by rw [hxi, nti_kind]; rw [hk0]; rfl
  obtain ⟨w2, e2⟩ : ∃ w2, w2 = w1.alloc (.cells #[.int .i64 x.i.kind, .int .i64 x.i.at', .int .i64 x.i.n, .slice x.ao x.i.p.length x.cap] 76) := ⟨_, rfl⟩
  have b2 : Below w1.heap.size w1 w2 := by rw [e2]; exact al_below _ _
  obtain ⟨a0, a1, a2, a3⟩ : K4 w2 w1.heap.size (.int .i64 x.i.kind) (.int .i64 x.i.at') (.int .i64 x.i.n) (.slice x.ao x.i.p.length x.cap) := by rw [e2]; exact k4_new _ _ _ _ _ _
  have S2 : Hid _ := (HS.out.grow b1).grow b2
  have N2 : Hid _ := (HN.out.grow b1).grow b2
  have hl12 : w1.heap.size < w2.heap.size := by rw [e2, al_size]; omega
  have hl01 : w0.heap.size < w1.heap.size := by have := HS.out.lt; have := b1.size; omega
  have KX : Hid (K4 w2 w1.heap.size (.int .i64 x.i.kind) (.int .i64 x.i.at') (.int .i64 x.i.n) (.slice x.ao x.i.p.length x.cap)) := ⟨a0, a1, a2, a3⟩
  rw [hxk] at a0 e2
  have E2 : Hid _ := e2
  rw [hxk]
  clear e2 b1 b2 hxi hxo CN HS HN
  clear hk0 ht hxk KX
  have CS : Hid _ := step_any w0 w2 t Y v S2.out
  go_wp2_with (first | rw [← E2.out])
  refine Calls.mono CS.out ?_; rintro e w3 ⟨rfl, hs3, hf3⟩
  have S3 : Hid _ := hs3
  have N3 : Hid _ := N2.out.kept hf3
  have CQ : Hid _ := HI.out w3 ⟨⟨_, _, S3.out, N3.out, HQ.out⟩, by have := HC.out; rw [List.length_cons] at this; omega⟩
  obtain ⟨so, cap, r5, _, _, _⟩ := S3.out.box
  have rc2 := r5.c2
  clear r5 hs3 hf3 S2 N2 CS E2 HI a0 a1 a2 a3 N3 S3 HQ HC
  rcases qr with r | ⟨X, r⟩
  · have HRES : Hid (res = .error r) := HRS.out
    go_wp2_with fail
    refine Calls.mono CQ.out ?_; rintro e w4 ⟨rfl, hs4⟩
    have S4 : Hid _ := hs4
    clear hs4 CQ
    go_wp2_with fail
    go_ret
    rw [HRES.out]
    exact ⟨rfl, S4.out⟩
  · have HRES : Hid (res = if (clq r).1 = true then .ok (X, (clq r).2) else .error (clq r).2) := HRS.out
    clear HRS
    go_wp2_with fail
    refine Calls.mono CQ.out ?_; rintro e w4 ⟨rfl, hs4⟩
    obtain ⟨⟨v4, L4, hs5, hn5, hq5⟩, hc5⟩ := hs4
    have CC : Hid _ := close_any w0 w4 r v4 hs5
    have N4 : Hid _ := hn5
    have HQ4 : Hid _ := hq5
    have HC4 : Hid _ := hc5
    clear hs5 hn5 hq5 hc5 CQ
    go_wp2_with fail
    refine Calls.mono CC.out ?_; rintro e w5 ⟨rfl, hs5, hf5⟩
    have S5 : Hid _ := hs5
    have N5 : Hid _ := N4.out.kept hf5
    clear hs5 hf5 CC N4
    cases hb : (clq r).1 with
    | true =>
      have HRES2 : Hid (res = .ok (X, (clq r).2)) := by show _ = _; rw [HRES.out, hb]; rfl
      have HLE : Hid ((clq r).2.length ≤ r.length) := clq_le r
      go_wp2_with fail
      go_ret
      rw [HRES2.out]
      refine ⟨rfl, ⟨_, _, S5.out, N5.out, HQ4.out⟩, ?_⟩
      have := HC4.out
      have := HLE.out
      omega
    | false =>
      have HRES2 : Hid (res = .error (clq r).2) := by show _ = _; rw [HRES.out, hb]; rfl
      go_wp2_with fail
      go_ret
      rw [HRES2.out]
      exact ⟨rfl, _, S5.out⟩

theorem itf_all (w0 : World) : ∀ f, Itf w0 f
  | 0 => fun w Y R hN h => by
    have : Y = [] := List.length_eq_zero_iff.1 (by omega)
    subst this
    exact ritem_end w0 w 0 [] R (by decide) (by decide) (by decide) (by decide) h
  | f + 1 => fun w Y R hN h => by
    have hI := itf_all w0 f
    cases Y with
    | nil => exact ritem_end w0 w 0 [] R (by decide) (by decide) (by decide) (by decide) h
    | cons t Y =>
      have hN2 : Y.length ≤ f := by rw [List.length_cons] at hN; omega
      by_cases h5 : t.kind = 5
      · exact ritem_not w0 w f hI t Y R h5 hN2 h
      by_cases h6 : t.kind = 6
      · exact ritem_shift w0 w f hI t Y R h6 hN2 h
      by_cases h8 : t.kind = 8
      · exact ritem_find w0 w f t Y R h8 h
      by_cases h1 : t.kind = 1
      · exact ritem_open w0 w f hI t Y R h1 hN2 h
      · rw [itq_step, if_neg h5, if_neg h6, if_neg h8, if_neg h1]
        exact ritem_end w0 w f (t :: Y) R h5 h6 h1 h8 h

end Cls

end Go.Proofs.YtbnnobeahliffaaGreatDoor
