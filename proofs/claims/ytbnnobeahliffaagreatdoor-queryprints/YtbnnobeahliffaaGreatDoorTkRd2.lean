/- Contracts of token's readItem, closed, readClass, readElement: boxes of classes. -/
import Derived.Test.YtbnnobeahliffaaGreatDoorTkRd1
import Derived.Test.YtbnnobeahliffaaGreatDoorTkHead
import Derived.Test.YtbnnobeahliffaaGreatDoorLfAl
set_option linter.unusedVariables false
namespace Go.Proofs.YtbnnobeahliffaaGreatDoor
open Go.RowKit
namespace Cls

/-- Four cells of a block. -/
structure K4 (w : World) (g : Nat) (v0 v1 v2 v3 : Value) : Prop where
  c0 : w.cell? ⟨g, 0, none⟩ = some v0
  c1 : w.cell? ⟨g, 1, none⟩ = some v1
  c2 : w.cell? ⟨g, 2, none⟩ = some v2
  c3 : w.cell? ⟨g, 3, none⟩ = some v3

/-- A box of four cells, of one's own: it may be written. -/
structure Kb (w v : World) (g : Nat) : Prop where
  bel : Below w.heap.size w v
  low : w.heap.size ≤ g
  hi : g < v.heap.size
  c : ∃ v0 v1 v2 v3, K4 v g v0 v1 v2 v3
  f : ∀ t, v.frozen? ⟨g, t, none⟩ = false

theorem k4_new (w : World) (v0 v1 v2 v3 : Value) (T : TypeId) : K4 (w.alloc (.cells #[v0, v1, v2, v3] T)) w.heap.size v0 v1 v2 v3 := by
  have hb : (w.alloc (.cells #[v0, v1, v2, v3] T)).heap[w.heap.size]? = some (.cells #[v0, v1, v2, v3] T) := World.alloc_heap_new w _
  constructor
  all_goals
    unfold World.cell?
    rw [hb]
    rfl

theorem k4_free (w : World) (v0 v1 v2 v3 : Value) (T : TypeId) (t : Nat) : (w.alloc (.cells #[v0, v1, v2, v3] T)).frozen? ⟨w.heap.size, t, none⟩ = false := by
  have hb : (w.alloc (.cells #[v0, v1, v2, v3] T)).heap[w.heap.size]? = some (.cells #[v0, v1, v2, v3] T) := World.alloc_heap_new w _
  unfold World.frozen?
  rw [hb]
  simp

theorem kb_new (w : World) (v0 v1 v2 v3 : Value) (T : TypeId) : Kb w (w.alloc (.cells #[v0, v1, v2, v3] T)) w.heap.size :=
  ⟨al_below _ _, Nat.le_refl _, by rw [al_size]; omega, ⟨_, _, _, _, k4_new w _ _ _ _ _⟩, k4_free w _ _ _ _ _⟩

theorem K4.keep {v v' : World} {g : Nat} {v0 v1 v2 v3 : Value} (h : K4 v g v0 v1 v2 v3) (b : Below v.heap.size v v') : K4 v' g v0 v1 v2 v3 := by
  have hi : g < v.heap.size := World.block_lt_of_cell? v _ h.c0
  have c := fun (t : Nat) => b.cell (p := ⟨g, t, none⟩) hi
  exact ⟨(c 0).trans h.c0, (c 1).trans h.c1, (c 2).trans h.c2, (c 3).trans h.c3⟩

theorem Kb.grow {w v v' : World} {g : Nat} (h : Kb w v g) (b : Below v.heap.size v v') : Kb w v' g := by
  obtain ⟨v0, v1, v2, v3, hc⟩ := h.c
  exact ⟨h.bel.trans (b.mono h.bel.size), h.low, Nat.lt_of_lt_of_le h.hi b.size, ⟨_, _, _, _, hc.keep b⟩, fun t => by rw [b.frozen (p := ⟨g, t, none⟩) h.hi]; exact h.f t⟩

/-- A box made in a world that has grown. -/
theorem kb_more {w v : World} (h : Below w.heap.size w v) (v0 v1 v2 v3 : Value) (T : TypeId) : Kb w (v.alloc (.cells #[v0, v1, v2, v3] T)) v.heap.size :=
  ⟨h.alloc h.size _, h.size, by rw [al_size]; omega, ⟨_, _, _, _, k4_new v _ _ _ _ _⟩, k4_free v _ _ _ _ _⟩

/-- Four cells, written. -/
def set4v (v : World) (g : Nat) (x0 x1 x2 x3 : Value) : World :=
  (((v.setCell ⟨g, 0, none⟩ x0).setCell ⟨g, 1, none⟩ x1).setCell ⟨g, 2, none⟩ x2).setCell ⟨g, 3, none⟩ x3

theorem K4.drew {v : World} {g : Nat} {v0 v1 v2 v3 : Value} (h : K4 v g v0 v1 v2 v3) : K4 v.drew g v0 v1 v2 v3 := h.keep (Below.drew (Below.refl _ _))

/-- Cells of a block, as a function. -/
def Dv (w : World) (g n : Nat) (F : Nat → Value) : Prop := ∀ t, t < n → w.cell? ⟨g, t, none⟩ = some (F t)

theorem Dv.put {w : World} {g n : Nat} {F : Nat → Value} (h : Dv w g n F) (j : Nat) (x : Value) : Dv (w.setCell ⟨g, j, none⟩ x) g n (fun t => if t = j then x else F t) := fun t ht => by
  show _ = some (if t = j then x else F t)
  by_cases e : t = j
  · subst e
    rw [if_pos rfl]
    exact World.cell?_setCell_same w _ _ (h t ht)
  · rw [if_neg e, World.cell?_setCell_other w _ _ _ (fun hh => e (by injection hh with _ hh; exact hh.symm))]
    exact h t ht

theorem K4.set {v : World} {g : Nat} {v0 v1 v2 v3 : Value} (h : K4 v g v0 v1 v2 v3) (x0 x1 x2 x3 : Value) : K4 (set4v v g x0 x1 x2 x3) g x0 x1 x2 x3 := by
  have hF : Dv v g 4 (fun t => match t with | 0 => v0 | 1 => v1 | 2 => v2 | _ => v3) := fun t ht => by
    match t, ht with
    | 0, _ => exact h.c0
    | 1, _ => exact h.c1
    | 2, _ => exact h.c2
    | 3, _ => exact h.c3
  have hG := (((hF.put 0 x0).put 1 x1).put 2 x2).put 3 x3
  exact ⟨hG 0 (by decide), hG 1 (by decide), hG 2 (by decide), hG 3 (by decide)⟩

theorem set4v_below {B : Nat} {w v : World} (h : Below B w v) {g : Nat} (hg : B ≤ g) (x0 x1 x2 x3 : Value) : Below B w (set4v v g x0 x1 x2 x3) :=
  (((h.setCell (p := ⟨g, 0, none⟩) hg x0).setCell (p := ⟨g, 1, none⟩) hg x1).setCell (p := ⟨g, 2, none⟩) hg x2).setCell (p := ⟨g, 3, none⟩) hg x3

theorem set4v_size (v : World) (g : Nat) (x0 x1 x2 x3 : Value) : (set4v v g x0 x1 x2 x3).heap.size = v.heap.size := by
  unfold set4v
  simp [World.setCell]

theorem set4v_free (v : World) (g : Nat) (x0 x1 x2 x3 : Value) (b o : Nat) : (set4v v g x0 x1 x2 x3).frozen? ⟨b, o, none⟩ = v.frozen? ⟨b, o, none⟩ := by
  unfold set4v
  rw [frozen_setCell, frozen_setCell, frozen_setCell, frozen_setCell]

theorem set4v_other (v : World) (g : Nat) (x0 x1 x2 x3 : Value) (b o : Nat) (h : b ≠ g) : (set4v v g x0 x1 x2 x3).cell? ⟨b, o, none⟩ = v.cell? ⟨b, o, none⟩ := by
  unfold set4v
  rw [cell_setCell_ne _ _ _ _ _ _ (Or.inl h), cell_setCell_ne _ _ _ _ _ _ (Or.inl h), cell_setCell_ne _ _ _ _ _ _ (Or.inl h), cell_setCell_ne _ _ _ _ _ _ (Or.inl h)]

theorem Kb.put {w v : World} {g : Nat} (h : Kb w v g) (x0 x1 x2 x3 : Value) : K4 (set4v v g x0 x1 x2 x3) g x0 x1 x2 x3 ∧ Kb w (set4v v g x0 x1 x2 x3) g := by
  obtain ⟨v0, v1, v2, v3, hc⟩ := h.c
  exact ⟨hc.set _ _ _ _, ⟨set4v_below h.bel h.low _ _ _ _, h.low, by rw [set4v_size]; exact h.hi, ⟨_, _, _, _, hc.set x0 x1 x2 x3⟩, fun t => by rw [set4v_free]; exact h.f t⟩⟩

theorem K4.other {v : World} {g b : Nat} {v0 v1 v2 v3 : Value} (h : K4 v b v0 v1 v2 v3) (hb : b ≠ g) (x0 x1 x2 x3 : Value) : K4 (set4v v g x0 x1 x2 x3) b v0 v1 v2 v3 :=
  ⟨by rw [set4v_other _ _ _ _ _ _ _ _ hb]; exact h.c0, by rw [set4v_other _ _ _ _ _ _ _ _ hb]; exact h.c1, by rw [set4v_other _ _ _ _ _ _ _ _ hb]; exact h.c2, by rw [set4v_other _ _ _ _ _ _ _ _ hb]; exact h.c3⟩

theorem Kb.other {w v : World} {g b : Nat} (h : Kb w v b) (hb : b ≠ g) (hg : w.heap.size ≤ g) (x0 x1 x2 x3 : Value) : Kb w (set4v v g x0 x1 x2 x3) b := by
  obtain ⟨v0, v1, v2, v3, hc⟩ := h.c
  exact ⟨set4v_below h.bel hg _ _ _ _, h.low, by rw [set4v_size]; exact h.hi, ⟨_, _, _, _, hc.other hb _ _ _ _⟩, fun t => by rw [set4v_free]; exact h.f t⟩

/-- A class's words in a box. -/
def Kc (w : World) (g : Nat) (f : Nat → Bool) : Prop := K4 w g (.int .u64 ((wd f 0 : Nat) : Int)) (.int .u64 ((wd f 1 : Nat) : Int)) (.int .u64 ((wd f 2 : Nat) : Int)) (.int .u64 ((wd f 3 : Nat) : Int))

/-- Results: a class in a box, and two numbers. -/
theorem results_cls3 {fn : Func} {p u t : Tmp} (h : fn.results = #[.cell p 67, .tmp u, .tmp t]) (tmps : Array Value) (v : World) (b : Nat) {v0 v1 v2 v3 : Value} (hp : tmps.getD p undef = .pointer (some ⟨b, 0, none⟩)) (hG : K4 v b v0 v1 v2 v3) :
    (results fn tmps).run Tryz.prog v = .ok (.tuple #[.agg #[v0, v1, v2, v3], tmps.getD u undef, tmps.getD t undef]) v := by
  have hp' : tmps[p]?.getD undef = .pointer (some ⟨b, 0, none⟩) := by simpa using hp
  obtain ⟨c0, c1, c2, c3⟩ := hG
  simp [results, h, hp', asAddr, go_sem, c0, c1, c2, c3]

theorem results_cls2 {fn : Func} {p u : Tmp} (h : fn.results = #[.cell p 67, .tmp u]) (tmps : Array Value) (v : World) (b : Nat) {v0 v1 v2 v3 : Value} (hp : tmps.getD p undef = .pointer (some ⟨b, 0, none⟩)) (hG : K4 v b v0 v1 v2 v3) :
    (results fn tmps).run Tryz.prog v = .ok (.tuple #[.agg #[v0, v1, v2, v3], tmps.getD u undef]) v := by
  have hp' : tmps[p]?.getD undef = .pointer (some ⟨b, 0, none⟩) := by simpa using hp
  obtain ⟨c0, c1, c2, c3⟩ := hG
  simp [results, h, hp', asAddr, go_sem, c0, c1, c2, c3]

/-- What is read of a class, as the program has it. -/
def rdk : Rd (Nat → Bool) → Value
  | .ok (f, n) => .tuple #[.agg #[.int .u64 ((wd (f) 0 : Nat) : Int), .int .u64 ((wd (f) 1 : Nat) : Int), .int .u64 ((wd (f) 2 : Nat) : Int), .int .u64 ((wd (f) 3 : Nat) : Int)], .int .i64 (n : Int), .int .i64 0]
  | .error (p, c) => .tuple #[.agg #[.int .u64 0, .int .u64 0, .int .u64 0, .int .u64 0], .int .i64 (p : Int), .int .i64 (c : Int)]

/-- An item of a class: a byte, or a range. -/
def rit (s : ByteArray) (q : Nat) : Rd (Nat → Bool) :=
  match itm s q with
  | .error e => .error e
  | .ok (a, at1) =>
    if at1 < s.size ∧ byt s at1 = 45 then
      match itm s (at1 + 1) with
      | .error e => .error e
      | .ok (b, at2) => if b < a then .error (at1, 132) else .ok (rg a (b + 1), at2)
    else .ok (rg a (a + 1), at1)

theorem cli_rit (s : ByteArray) (fuel q : Nat) (out : Nat → Bool) (items : Nat) : cli s (fuel + 1) q out items =
    if q < s.size ∧ byt s q = 93 then .ok ((out, items), q) else match rit s q with | .error e => .error e | .ok (f, n) => cli s fuel n (fun x => out x || f x) (items + 1) := by
  rw [cli]
  unfold rit
  by_cases h : q < s.size ∧ byt s q = 93
  · rw [if_pos h, if_pos h]
  · rw [if_neg h, if_neg h]
    cases itm s q with
    | error e => rfl
    | ok r =>
      obtain ⟨a, at1⟩ := r
      simp only
      by_cases h2 : at1 < s.size ∧ byt s at1 = 45
      · rw [if_pos h2, if_pos h2]
        cases itm s (at1 + 1) with
        | error e => rfl
        | ok r =>
          obtain ⟨b, at2⟩ := r
          simp only
          by_cases h3 : b < a
          · rw [if_pos h3, if_pos h3]
          · rw [if_neg h3, if_neg h3]
      · rw [if_neg h2, if_neg h2]

theorem rit_next {s : ByteArray} {q n : Nat} {f : Nat → Bool} (h : rit s q = .ok (f, n)) : q < n ∧ n ≤ s.size ∧ ∃ x, x < 256 ∧ f x = true := by
  unfold rit at h
  split at h
  · cases h
  · rename_i a at1 e1
    have n1 := itm_next e1
    split at h
    · split at h
      · cases h
      · rename_i b at2 e2
        have n2 := itm_next e2
        split at h
        · cases h
        · simp only [Except.ok.injEq, Prod.mk.injEq] at h
          obtain ⟨rfl, rfl⟩ := h
          exact ⟨by omega, by omega, a, by omega, by unfold rg; simp; omega⟩
    · simp only [Except.ok.injEq, Prod.mk.injEq] at h
      obtain ⟨rfl, rfl⟩ := h
      exact ⟨by omega, by omega, a, by omega, by unfold rg; simp⟩

set_option maxRecDepth 100000 in
set_option maxHeartbeats 2000000 in
theorem item_any (s : ByteArray) (q : Nat) (hs : s.size ≤ 1000000) (hq : q ≤ s.size) (w : World) :
    Calls Tryz.prog 112 #[.string s, .int .i64 (q : Int)] w fun e w' => e = .returned (rdk (rit s q)) ∧ Below w.heap.size w w' := by
  obtain ⟨w1, e1⟩ : ∃ w1, w1 = w.alloc (.cells #[.int .u64 0, .int .u64 0, .int .u64 0, .int .u64 0] 67) := ⟨_, rfl⟩
  have hb := kb_new w (.int .u64 0) (.int .u64 0) (.int .u64 0) (.int .u64 0) 67
  rw [← e1] at hb
  have E1 : Hid _ := e1
  have HB : Hid (Kb w w1 w.heap.size) := hb
  obtain ⟨v0, v1, v2, v3, c0, c1, c2, c3⟩ := hb.c
  have f0 := hb.f 0
  have f1 := hb.f 1
  have f2 := hb.f 2
  have f3 := hb.f 3
  clear hb e1
  have CB : Hid _ := fun (v : World) => byte_any itT aptC (fun b hb => fpos_it hb) 132 s q hs hq v
  rw [rby_itm] at CB
  unfold itT at CB
  cases hx : itm s q with
  | error r =>
    obtain ⟨p, c⟩ := r
    have HF : Hid (rit s q = .error (p, c)) := by show _ = _; unfold rit; rw [hx]
    have hc : ¬ (c : Int) = 0 := by
      have : c ≠ 0 := by
        intro e; subst e
        unfold itm at hx
        split at hx
        · simp at hx
        split at hx
        · have := esp_code hx; omega
        split at hx
        · simp at hx
        · cases hx
      omega
    rw [hx] at CB
    unfold rdt at CB
    go_enter Tryz.func112, Tryz.ntmps112
    go_wp2_with (first | rw [← E1.out])
    refine Calls.mono (CB.out _) ?_; rintro e w2 ⟨rfl, rfl⟩
    go_wp2_with fail
    refine bodyPost_ret (results_cls3 rfl _ _ w.heap.size rfl (HB.out.put _ _ _ _).1) rfl ?_
    exact ⟨by rw [HF.out]; rfl, (HB.out.put _ _ _ _).2.bel⟩
  | ok r =>
    obtain ⟨a, at1⟩ := r
    have n1 := itm_next hx
    rw [hx] at CB
    unfold rdt at CB
    by_cases h45 : at1 < s.size ∧ byt s at1 = 45
    · have hi : ∀ w, (Instr.index 9 (.string s) (.int .i64 (at1 : Int))).run Tryz.prog w = .ok (.int .u8 45) w := fun w => by rw [idx_str s at1 h45.1 w, h45.2]; rfl
      have hI : ¬ (at1 : Int) = (s.size : Int) := by omega
      have hw1 : IntKind.i64.wrap ((at1 : Int) + 1) = (at1 : Int) + 1 := by rw [IntKind.wrap_i64]; omega
      have CC : Hid _ := fun (v : World) => byte_any itT aptC (fun b hb => fpos_it hb) 132 s (at1 + 1) hs (by omega) v
      rw [rby_itm, show ((at1 + 1 : Nat) : Int) = (at1 : Int) + 1 by omega] at CC
      unfold itT at CC
      cases hy : itm s (at1 + 1) with
      | error r =>
        obtain ⟨p, c⟩ := r
        have HF : Hid (rit s q = .error (p, c)) := by show _ = _; unfold rit; rw [hx]; simp only; rw [if_pos h45, hy]
        have hc : ¬ (c : Int) = 0 := by
          have : c ≠ 0 := by
            intro e; subst e
            unfold itm at hy
            split at hy
            · simp at hy
            split at hy
            · have := esp_code hy; omega
            split at hy
            · simp at hy
            · cases hy
          omega
        rw [hy] at CC
        unfold rdt at CC
        go_enter Tryz.func112, Tryz.ntmps112
        go_wp2_with (first | rw [← E1.out])
        refine Calls.mono (CB.out _) ?_; rintro e w2 ⟨rfl, rfl⟩
        go_wp2_with fail
        refine Calls.mono (CC.out _) ?_; rintro e w2 ⟨rfl, rfl⟩
        go_wp2_with fail
        refine bodyPost_ret (results_cls3 rfl _ _ w.heap.size rfl (HB.out.put _ _ _ _).1) rfl ?_
        exact ⟨by rw [HF.out]; rfl, (HB.out.put _ _ _ _).2.bel⟩
      | ok r =>
        obtain ⟨b, at2⟩ := r
        have n2 := itm_next hy
        rw [hy] at CC
        unfold rdt at CC
        by_cases hab : b < a
        · have HF : Hid (rit s q = .error (at1, 132)) := by show _ = _; unfold rit; rw [hx]; simp only; rw [if_pos h45, hy]; simp only; rw [if_pos hab]
          have habI : (b : Int) < (a : Int) := by omega
          go_enter Tryz.func112, Tryz.ntmps112
          go_wp2_with (first | rw [← E1.out])
          refine Calls.mono (CB.out _) ?_; rintro e w2 ⟨rfl, rfl⟩
          go_wp2_with fail
          refine Calls.mono (CC.out _) ?_; rintro e w2 ⟨rfl, rfl⟩
          go_wp2_with fail
          refine bodyPost_ret (results_cls3 rfl _ _ w.heap.size rfl (HB.out.put _ _ _ _).1) rfl ?_
          exact ⟨by rw [HF.out]; rfl, (HB.out.put _ _ _ _).2.bel⟩
        · have HF : Hid (rit s q = .ok (rg a (b + 1), at2)) := by show _ = _; unfold rit; rw [hx]; simp only; rw [if_pos h45, hy]; simp only; rw [if_neg hab]
          have habI : ¬ (b : Int) < (a : Int) := by omega
          have CR : Hid _ := fun (v : World) => range_any a b (by omega) (by omega) v
          go_enter Tryz.func112, Tryz.ntmps112
          go_wp2_with (first | rw [← E1.out])
          refine Calls.mono (CB.out _) ?_; rintro e w2 ⟨rfl, rfl⟩
          go_wp2_with fail
          refine Calls.mono (CC.out _) ?_; rintro e w2 ⟨rfl, rfl⟩
          go_wp2_with fail
          refine Calls.mono (CR.out _) ?_; rintro e w3 ⟨rfl, b3⟩
          have H3 : Hid (Kb w w3 w.heap.size) := HB.out.grow b3
          clear c0 c1 c2 c3 f0 f1 f2 f3 b3
          obtain ⟨v0, v1, v2, v3, c0, c1, c2, c3⟩ := H3.out.c
          have f0 := H3.out.f 0
          have f1 := H3.out.f 1
          have f2 := H3.out.f 2
          have f3 := H3.out.f 3
          go_wp2_with fail
          refine bodyPost_ret (results_cls3 rfl _ _ w.heap.size rfl (H3.out.put _ _ _ _).1) rfl ?_
          exact ⟨by rw [HF.out]; rfl, (H3.out.put _ _ _ _).2.bel⟩
    · have HF : Hid (rit s q = .ok (rg a (a + 1), at1)) := by show _ = _; unfold rit; rw [hx]; simp only; rw [if_neg h45]
      have CR : Hid _ := fun (v : World) => range_any a a (by omega) (by omega) v
      by_cases hl : at1 < s.size
      · have hi : ∀ w, (Instr.index 9 (.string s) (.int .i64 (at1 : Int))).run Tryz.prog w = .ok (.int .u8 ((byt s at1 : Nat) : Int)) w := fun w => idx_str s at1 hl w
        have hI : ((at1 : Int) == (s.size : Int)) = false := beq_eq_false_iff_ne.2 (by omega)
        have hy : (((byt s at1 : Nat) : Int) != 45) = true := by
          have h : ¬ ((byt s at1 : Nat) : Int) = 45 := by omega
          simpa using h
        generalize byt s at1 = y at *
        go_enter Tryz.func112, Tryz.ntmps112
        go_wp2_with (first | rw [← E1.out])
        refine Calls.mono (CB.out _) ?_; rintro e w2 ⟨rfl, rfl⟩
        go_wp2_with fail
        refine Calls.mono (CR.out _) ?_; rintro e w3 ⟨rfl, b3⟩
        have H3 : Hid (Kb w w3 w.heap.size) := HB.out.grow b3
        clear c0 c1 c2 c3 f0 f1 f2 f3 b3
        obtain ⟨v0, v1, v2, v3, c0, c1, c2, c3⟩ := H3.out.c
        have f0 := H3.out.f 0
        have f1 := H3.out.f 1
        have f2 := H3.out.f 2
        have f3 := H3.out.f 3
        go_wp2_with fail
        refine bodyPost_ret (results_cls3 rfl _ _ w.heap.size rfl (H3.out.put _ _ _ _).1) rfl ?_
        exact ⟨by rw [HF.out]; rfl, (H3.out.put _ _ _ _).2.bel⟩
      · obtain rfl : at1 = s.size := by omega
        go_enter Tryz.func112, Tryz.ntmps112
        go_wp2_with (first | rw [← E1.out])
        refine Calls.mono (CB.out _) ?_; rintro e w2 ⟨rfl, rfl⟩
        go_wp2_with fail
        refine Calls.mono (CR.out _) ?_; rintro e w3 ⟨rfl, b3⟩
        have H3 : Hid (Kb w w3 w.heap.size) := HB.out.grow b3
        clear c0 c1 c2 c3 f0 f1 f2 f3 b3
        obtain ⟨v0, v1, v2, v3, c0, c1, c2, c3⟩ := H3.out.c
        have f0 := H3.out.f 0
        have f1 := H3.out.f 1
        have f2 := H3.out.f 2
        have f3 := H3.out.f 3
        go_wp2_with fail
        refine bodyPost_ret (results_cls3 rfl _ _ w.heap.size rfl (H3.out.put _ _ _ _).1) rfl ?_
        exact ⟨by rw [HF.out]; rfl, (H3.out.put _ _ _ _).2.bel⟩

/-- Are there bytes, and is one left? -/
def clk (f : Nat → Bool) (o : Bool) : Bool := !sm f (fun _ => false) && !sm (if o then fun x => !f x else f) (fun _ => false)

set_option maxRecDepth 100000 in
set_option maxHeartbeats 2000000 in
theorem closed_any (f : Nat → Bool) (o : Bool) (w : World) :
    Calls Tryz.prog 111 #[.agg #[.int .u64 ((wd (f) 0 : Nat) : Int), .int .u64 ((wd (f) 1 : Nat) : Int), .int .u64 ((wd (f) 2 : Nat) : Int), .int .u64 ((wd (f) 3 : Nat) : Int)], .bool o] w fun e w' => (∃ g : Nat → Bool, e = .returned (.tuple #[.agg #[.int .u64 ((wd (g) 0 : Nat) : Int), .int .u64 ((wd (g) 1 : Nat) : Int), .int .u64 ((wd (g) 2 : Nat) : Int), .int .u64 ((wd (g) 3 : Nat) : Int)], .bool (clk f o)]) ∧ (clk f o = true → g = if o then fun x => !f x else f)) ∧ Below w.heap.size w w' := by
  obtain ⟨w1, e1⟩ : ∃ w1, w1 = w.alloc (.cells #[.int .u64 ((wd (f) 0 : Nat) : Int), .int .u64 ((wd (f) 1 : Nat) : Int), .int .u64 ((wd (f) 2 : Nat) : Int), .int .u64 ((wd (f) 3 : Nat) : Int)] 67) := ⟨_, rfl⟩
  obtain ⟨w2, e2⟩ : ∃ w2, w2 = w1.alloc (.cells #[.int .u64 0, .int .u64 0, .int .u64 0, .int .u64 0] 67) := ⟨_, rfl⟩
  obtain ⟨w3, e3⟩ : ∃ w3, w3 = w2.alloc (.cells #[.int .u64 0, .int .u64 0, .int .u64 0, .int .u64 0] 67) := ⟨_, rfl⟩
  have s1 : w1.heap.size = w.heap.size + 1 := by rw [e1, al_size]
  have s2 : w2.heap.size = w1.heap.size + 1 := by rw [e2, al_size]
  have s3 : w3.heap.size = w2.heap.size + 1 := by rw [e3, al_size]
  have b1 : Below w.heap.size w w1 := by rw [e1]; exact al_below _ _
  have b2 : Below w1.heap.size w1 w2 := by rw [e2]; exact al_below _ _
  have b3 : Below w2.heap.size w2 w3 := by rw [e3]; exact al_below _ _
  have k1 : Kb w w1 w.heap.size := by rw [e1]; exact kb_new _ _ _ _ _ _
  have k2 : Kb w w2 w1.heap.size := by rw [e2]; exact kb_more b1 _ _ _ _ _
  have k3 : Kb w w3 w2.heap.size := by rw [e3]; exact kb_more (b1.trans (b2.mono b1.size)) _ _ _ _ _
  have q1 : Kc w1 w.heap.size f := by rw [e1]; exact k4_new _ _ _ _ _ _
  have q2 : K4 w2 w1.heap.size (.int .u64 0) (.int .u64 0) (.int .u64 0) (.int .u64 0) := by rw [e2]; exact k4_new _ _ _ _ _ _
  have q3 : K4 w3 w2.heap.size (.int .u64 0) (.int .u64 0) (.int .u64 0) (.int .u64 0) := by rw [e3]; exact k4_new _ _ _ _ _ _
  have E1 : Hid _ := e1
  have E2 : Hid _ := e2
  have E3 : Hid _ := e3
  have KA : Hid (Kb w w3 w.heap.size) := (k1.grow b2).grow b3
  have KR : Hid (Kb w w3 w1.heap.size) := k2.grow b3
  have KN : Hid (Kb w w3 w2.heap.size) := k3
  have QA : Hid (Kc w3 w.heap.size f) := (K4.keep q1 b2).keep b3
  have QR : Hid (K4 w3 w1.heap.size (.int .u64 0) (.int .u64 0) (.int .u64 0) (.int .u64 0)) := K4.keep q2 b3
  have QN : Hid (K4 w3 w2.heap.size (.int .u64 0) (.int .u64 0) (.int .u64 0) (.int .u64 0)) := q3
  have n1 : w.heap.size ≠ w1.heap.size := by omega
  have n2 : w.heap.size ≠ w2.heap.size := by omega
  have n3 : w1.heap.size ≠ w2.heap.size := by omega
  have H1 : Hid (w.heap.size + 1 = w1.heap.size) := s1.symm
  have H2 : Hid (w1.heap.size + 1 = w2.heap.size) := s2.symm
  have CN : Hid _ := fun (v : World) => not_any f v
  clear e1 e2 e3 b1 b2 b3 k1 k2 k3 q1 q2 q3 s1 s2 s3
  generalize w1.heap.size = g1 at *
  generalize w2.heap.size = g2 at *
  obtain ⟨a0, a1, a2, a3⟩ := QA.out
  obtain ⟨z0, z1, z2, z3⟩ := QN.out
  have ff0 := KA.out.f 0
  have ff1 := KA.out.f 1
  have ff2 := KA.out.f 2
  have ff3 := KA.out.f 3
  have fr0 := KR.out.f 0
  have fr1 := KR.out.f 1
  have fr2 := KR.out.f 2
  have fr3 := KR.out.f 3
  obtain ⟨u0, u1, u2, u3, r0, r1, r2, r3⟩ := KR.out.c
  cases hz : sm f (fun _ => false) with
  | true =>
    have HC : Hid (∀ o, clk f o = false) := fun o => by unfold clk; rw [hz]; rfl
    cases o
    all_goals
      go_enter Tryz.func111, Tryz.ntmps111
      go_wp2_with fail
      rw [← E1.out, ← E2.out, ← E3.out, H1.out, H2.out]
      refine bodyPost_ret (results_cls2 rfl _ _ g1 rfl QR.out) rfl ?_
      refine ⟨⟨fun _ => false, ?_, fun h => by rw [HC.out] at h; cases h⟩, KR.out.bel⟩
      rw [HC.out]
      simp only [wd_none]
      rfl
  | false =>
    cases o with
    | false =>
      have HC : Hid (clk f false = true) := by show _ = _; unfold clk; rw [hz]; simp [hz]
      go_enter Tryz.func111, Tryz.ntmps111
      go_wp2_with fail
      rw [← E1.out, ← E2.out, ← E3.out, H1.out, H2.out]
      go_wp2_with fail
      try simp only [hz]
      go_wp2_with fail
      go_region
      all_goals
        go_wp2_with fail
        try simp only [hz]
        refine bodyPost_ret (results_cls2 rfl _ _ g1 rfl (KR.out.put _ _ _ _).1.drew) rfl ?_
        refine ⟨⟨f, by rw [HC.out]; rfl, fun _ => rfl⟩, (KR.out.put _ _ _ _).2.bel.drew⟩
    | true =>
      have HC : Hid (clk f true = !sm (fun x => !f x) (fun _ => false)) := by show _ = _; unfold clk; rw [hz]; simp
      go_enter Tryz.func111, Tryz.ntmps111
      go_wp2_with fail
      rw [← E1.out, ← E2.out, ← E3.out, H1.out, H2.out]
      go_wp2_with fail
      try simp only [hz]
      go_wp2_with fail
      refine Calls.mono (CN.out w3) ?_; rintro e w4 ⟨rfl, b4⟩
      have KA4 : Hid (Kb w w4 w.heap.size) := KA.out.grow b4
      have KR4 : Hid (Kb w w4 g1) := KR.out.grow b4
      have QN4 : Hid (K4 w4 g2 (.int .u64 0) (.int .u64 0) (.int .u64 0) (.int .u64 0)) := K4.keep QN.out b4
      clear a0 a1 a2 a3 z0 z1 z2 z3 ff0 ff1 ff2 ff3 fr0 fr1 fr2 fr3 r0 r1 r2 r3 KA KR QA QN KN b4
      obtain ⟨y0, y1, y2, y3, a0, a1, a2, a3⟩ := KA4.out.c
      have ff0 := KA4.out.f 0
      have ff1 := KA4.out.f 1
      have ff2 := KA4.out.f 2
      have ff3 := KA4.out.f 3
      go_wp2_with fail
      obtain ⟨w5, e5⟩ : ∃ w5, w5 = set4v w4 w.heap.size (.int .u64 ((wd (fun x => !f x) 0 : Nat) : Int)) (.int .u64 ((wd (fun x => !f x) 1 : Nat) : Int)) (.int .u64 ((wd (fun x => !f x) 2 : Nat) : Int)) (.int .u64 ((wd (fun x => !f x) 3 : Nat) : Int)) := ⟨_, rfl⟩
      have p5 := KA4.out.put (.int .u64 ((wd (fun x => !f x) 0 : Nat) : Int)) (.int .u64 ((wd (fun x => !f x) 1 : Nat) : Int)) (.int .u64 ((wd (fun x => !f x) 2 : Nat) : Int)) (.int .u64 ((wd (fun x => !f x) 3 : Nat) : Int))
      have p6 := KR4.out.other (g := w.heap.size) (fun e => n1 e.symm) (Nat.le_refl _) (.int .u64 ((wd (fun x => !f x) 0 : Nat) : Int)) (.int .u64 ((wd (fun x => !f x) 1 : Nat) : Int)) (.int .u64 ((wd (fun x => !f x) 2 : Nat) : Int)) (.int .u64 ((wd (fun x => !f x) 3 : Nat) : Int))
      have p7 := K4.other (g := w.heap.size) QN4.out (fun e => n2 e.symm) (.int .u64 ((wd (fun x => !f x) 0 : Nat) : Int)) (.int .u64 ((wd (fun x => !f x) 1 : Nat) : Int)) (.int .u64 ((wd (fun x => !f x) 2 : Nat) : Int)) (.int .u64 ((wd (fun x => !f x) 3 : Nat) : Int))
      rw [← e5] at p5 p6 p7
      have E5 : Hid _ := e5
      have KR5 : Hid (Kb w w5 g1) := p6
      clear e5 a0 a1 a2 a3 ff0 ff1 ff2 ff3 KA4 KR4 QN4
      unfold set4v at E5
      rw [← E5.out]
      obtain ⟨a0, a1, a2, a3⟩ := p5.1
      obtain ⟨z0, z1, z2, z3⟩ := p7
      clear p5 p6
      have fr0 := KR5.out.f 0
      have fr1 := KR5.out.f 1
      have fr2 := KR5.out.f 2
      have fr3 := KR5.out.f 3
      obtain ⟨u0, u1, u2, u3, r0, r1, r2, r3⟩ := KR5.out.c
      go_wp2_with fail
      go_region
      all_goals
        go_wp2_with fail
        refine bodyPost_ret (results_cls2 rfl _ _ g1 rfl (KR5.out.put _ _ _ _).1.drew) rfl ?_
        refine ⟨⟨fun x => !f x, by rw [HC.out]; rfl, fun _ => rfl⟩, (KR5.out.put _ _ _ _).2.bel.drew⟩

end Cls
end Go.Proofs.YtbnnobeahliffaaGreatDoor
