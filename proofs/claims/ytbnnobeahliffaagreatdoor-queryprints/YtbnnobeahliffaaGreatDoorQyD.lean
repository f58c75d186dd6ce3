/- A range over a function whose variable is boxed anew in every round. Nothing of the program. (Of Seq's wp_seq.) How deep a row is, read from its end: plain; slices.Backward and query.Depth. Contract of query.Depth. Contracts of query.newReader, query.Parse. Contract of (*query.writer).tree. (Written by mkqpr.py.) Contracts of query.wrong and of slices.ContainsFunc that it is handed to. Contract of query.Right. Contract of query.Print. -/
import Derived.Test.YtbnnobeahliffaaGreatDoorSeq
import Derived.Test.YtbnnobeahliffaaGreatDoorQyA
import Derived.Test.YtbnnobeahliffaaGreatDoorQyC
import Derived.Test.YtbnnobeahliffaaGreatDoorNvA
import Derived.Maps.OwnIn
import Derived.Shelf.Abstract
import Derived.Shelf.RegionOpen
import Derived.WalkKit
import Derived.TacticsInMore
import Derived.LoopNIn
import Derived.LoopIn
import Derived.Test.YtbnnobeahliffaaGreatDoorTkRd1
import Derived.Test.YtbnnobeahliffaaGreatDoorQyB
import Derived.Test.YtbnnobeahliffaaGreatDoorTkRd8
import Derived.Laws.EntriesVeiled
import Derived.Test.YtbnnobeahliffaaGreatDoorLfA

namespace Go.Proofs.YtbnnobeahliffaaGreatDoor
open Go.RowKit

/-- The statement 'for .. := range g { .. }' whose variable is boxed anew in every round. -/
theorem wp_seqB {α : Type} {P : Program} {g : Operand} {ps : Array Tmp} {assign body : Code} {Q : Exit → Act → World → Prop} {a : Act} {w : World}
    {gf : Nat} {lb : Array Value} (hg : a.eval g = .func (.func gf) #[] lb) (eg : ∀ args w, (callFunc gf args).run P w = .ok (.enter gf args) w)
    {encs : α → Array Value} {A : Nat → Prop} {X : List α} (hseq : SeqM P gf lb encs A X w) (hps : ∀ x, (encs x).size = ps.size) (hA : ∀ k, A k → k < w.heap.size)
    (I : List α → (Nat → Prop) → World → Prop) (Ix : Code → List α → (Nat → Prop) → World → Prop) (hI : Abid w.heap.size I) (hIx : ∀ c, Abid w.heap.size (Ix c)) (h0 : I [] A w) (ob : α → Obj) (a₁ : α → Nat → Act)
    (hassign : ∀ (l : Nat) (x : α) (W : World) (K : Act → World → Prop), K (a₁ x W.heap.size) (W.alloc (ob x)) →
      assign.wpIn (Fence.wide.inRound l) 7 P (Exit.then K (fun _ _ _ => False)) { tmps := (ps.zip (encs x)).foldl (fun t (p, v) => t.setIfInBounds p v) a.tmps, defers := [] } W)
    (hbody : ∀ (l : Nat) (pre : List α) (M : Nat → Prop) (x : α) (W : World), I pre M W → (∀ k, M k → k < W.heap.size) → (pre ++ [x]) <+: X → ∀ g, w.heap.size ≤ g → ¬ M g → W.heap[g]? = some (ob x) → body.wpIn (Fence.wide.inRound l) 7 P (postM M I Ix (pre ++ [x]) W) (a₁ x g) W)
    (hdone : ∀ (D : Nat) (W : World), w.heap.size ≤ D → I X (fun k => A k ∨ k = D) W → W.heap[D]? = some (.deferred (some [])) → Q .normal { a with defers := { target := .collected D, args := #[] } :: a.defers } W)
    (hstop : ∀ (D : Nat) (c : Code) (pre : List α) (W : World), w.heap.size ≤ D → pre <+: X → Ix c pre (fun k => A k ∨ k = D) W → W.heap[D]? = some (.deferred (some [])) → c.wpIn Fence.wide 9 P Q { a with defers := { target := .collected D, args := #[] } :: a.defers } W) :
    (Code.rangeFunc g ps assign body).wpIn Fence.wide 9 P Q a w := by
  refine wpIn_rangeFunc fun fn _ => ?_
  obtain ⟨B, hB⟩ : ∃ B, w.heap.size = B := ⟨_, rfl⟩
  rw [hB] at hA hI hIx hdone hstop
  let rc : LoopState → Option Code → Obj := fun st pe => .loop { state := st, pending := pe, fn, tmps := a.tmps, params := ps, assign, body, defers := B }
  -- the two blocks that are laid
  obtain ⟨W1, hW1⟩ : ∃ W1, (w.alloc (.deferred (some []))).alloc (rc .ready none) = W1 := ⟨_, rfl⟩
  have sz1 : W1.heap.size = B + 2 := by rw [← hW1, World.size_alloc, World.size_alloc, hB]
  have r1 : W1.heap[B + 1]? = some (rc .ready none) := by
    have h := World.alloc_heap_new (w.alloc (.deferred (some []))) (rc .ready none)
    rw [World.size_alloc, hB, hW1] at h
    exact h
  have d1 : W1.heap[B]? = some (.deferred (some [])) := by
    rw [← hW1, Below.heap_alloc _ _ _ (by rw [World.size_alloc]; omega), ← hB]
    exact World.alloc_heap_new w _
  have b1 : Below w.heap.size w W1 := by rw [← hW1]; exact ((Below.refl _ w).alloc (Nat.le_refl _) _).alloc (by simp) _
  -- what is said along the way
  let M2 : (Nat → Prop) → Nat → Prop := fun M k => M k ∨ k = B ∨ k = B + 1
  have up : ∀ {K : List α → (Nat → Prop) → World → Prop}, Abid B K → ∀ (o : Obj), Abid (B + 2) (fun pre M W => K pre (M2 M) W ∧ W.heap[B + 1]? = some o ∧ W.heap[B]? = some (.deferred (some [])) ∧ ¬ M (B + 1)) := by
    intro K hK o s M M' W W' ⟨hk, hr, hd, hn⟩ hf hm
    have l1 : B + 1 < W.heap.size := (Array.getElem?_eq_some_iff.1 hr).1
    refine ⟨hK s (M2 M) (M2 M') W W' hk (hf.mono fun k _ h hM => by have := h (.inl hM); omega) (fun k h => ?_), (hf.block _ l1 (fun _ => by omega)).trans hr, (hf.block _ (by omega) (fun _ => by omega)).trans hd, fun h => (hm _ h).elim hn (by omega)⟩
    rcases h with h | h
    · exact (hm k h).imp .inl id
    · exact .inl (.inr h)
  refine ⟨B + 1, [{ target := .collected B, args := #[] }], W1, { target := .fn (.func gf) lb, args := #[.func (.yield (B + 1)) #[] #[]] }, W1, gf, #[.func (.yield (B + 1)) #[] #[]] ++ lb, W1, ?_, ?_, fun _ _ => trivial, ?_, fun h => (by cases h), callsIn_wide.2 ?_⟩
  · have h := run_enterLoop_outer (P := P) (w := w) fn a.tmps ps assign body
    rw [hB] at h
    rw [← hW1]
    exact h
  · simp only [resolve, hg]
    simp [go_sem]
  · simp [invoke, go_sem, eg]
  refine (hseq (B + 1) (fun pre M W => I pre (M2 M) W ∧ W.heap[B + 1]? = some (rc .ready none) ∧ W.heap[B]? = some (.deferred (some [])) ∧ ¬ M (B + 1))
    (fun pre M W => ∃ c, Ix c pre (M2 M) W ∧ W.heap[B + 1]? = some (rc .done (some c)) ∧ W.heap[B]? = some (.deferred (some [])) ∧ ¬ M (B + 1)) W1 b1
    (by rw [sz1]; exact up hI _) (by rw [sz1]; exact fun s M M' W W' ⟨c, h⟩ hf hm => ⟨c, up (hIx c) _ s M M' W W' h hf hm⟩) ?_ ⟨?_, r1, d1, fun h => by have := hA _ h; omega⟩).mono ?_
  · -- a round
    rintro pre M x W ⟨hi, hr, hd, hn⟩ hMb hlen
    have l1 : B + 1 < W.heap.size := (Array.getElem?_eq_some_iff.1 hr).1
    refine ⟨fn, _, assign, body, run_yield (P := P) (args := encs x) hr (hps x), roundIn_of_wpIn trivial (hassign _ x W _ ?_)⟩
    obtain ⟨U, hU⟩ : ∃ U, W.alloc (ob x) = U := ⟨_, rfl⟩
    have bU : Below W.heap.size W U := by rw [← hU]; exact (Below.refl _ _).alloc (Nat.le_refl _) _
    have rU : U.heap[B + 1]? = some (rc .ready none) := (bU.block _ l1).trans hr
    have dU : U.heap[B]? = some (.deferred (some [])) := (bU.block _ (by omega)).trans hd
    have iU : I pre (M2 M) U := hI _ (M2 M) (M2 M) W U hi (Fr.of_below bU fun k hk _ => hk) (fun k h => .inl h)
    have gU : U.heap[W.heap.size]? = some (ob x) := by rw [← hU]; exact World.alloc_heap_new W _
    have sU : U.heap.size = W.heap.size + 1 := by rw [← hU, World.size_alloc]
    have hMW : ∀ k, M2 M k → k < W.heap.size := fun k h => by
      rcases h with h | h | h
      · exact hMb k h
      · omega
      · omega
    rw [hU]
    refine ⟨_, run_beginRound rU rfl, ?_⟩
    obtain ⟨V, hV⟩ : ∃ V, U.putObj (B + 1) (rc .busy none) = V := ⟨_, rfl⟩
    have iV : I pre (M2 M) V := by rw [← hV]; exact hI.put _ iU (.inr (.inr rfl)) (by omega)
    have fV : Fr M W V := by rw [← hV]; exact (Fr.of_below bU fun k hk _ => hk).putObj hn _
    have rV : V.heap[B + 1]? = some (rc .busy none) := by rw [← hV]; exact World.putObj_heap_same (by omega)
    have dV : V.heap[B]? = some (.deferred (some [])) := by rw [← hV]; exact (World.putObj_heap_other (by omega)).trans dU
    have gV : V.heap[W.heap.size]? = some (ob x) := by rw [← hV]; exact (World.putObj_heap_other (by omega)).trans gU
    have lV : B + 1 < V.heap.size := (Array.getElem?_eq_some_iff.1 rV).1
    have e : U.putObj (B + 1) (.loop { state := .busy, pending := none, fn, tmps := a.tmps, params := ps, assign, body, defers := B }) = V := hV
    rw [e]
    have hMV : ∀ k, M2 M k → k < V.heap.size := fun k h => Nat.lt_of_lt_of_le (hMW k h) fV.size
    refine wpIn_mono (hbody _ pre (M2 M) x V iV hMV hlen W.heap.size (by omega) (fun h => by have := hMW _ h; omega) gV) ?_
    -- a round's end
    have fin : ∀ (K : List α → (Nat → Prop) → World → Prop) (j : Option Code) (W3 : World), Abid B K → Fr (M2 M) V W3 → K (pre ++ [x]) (M2 M) W3 →
        ∃ W4, (Instr.endRound (B + 1) j).run P W3 = .ok (.bool j.isNone) W4 ∧ Fr M W W4 ∧ K (pre ++ [x]) (M2 M) W4 ∧ W4.heap[B + 1]? = some (rc (if j.isNone then .ready else .done) j) ∧ W4.heap[B]? = some (.deferred (some [])) := by
      intro K j W3 hK hf hk
      have r3 : W3.heap[B + 1]? = some (rc .busy none) := (hf.block _ lV (.inr (.inr rfl))).trans rV
      have l3 : B + 1 < W3.heap.size := (Array.getElem?_eq_some_iff.1 r3).1
      refine ⟨_, run_endRound (P := P) j r3, ((fV.trans (hf.mono fun k _ h => .inl h)).putObj hn _), hK.put _ hk (.inr (.inr rfl)) (by omega), World.putObj_heap_same l3, (World.putObj_heap_other (by omega)).trans ((hf.block _ (by omega) (.inr (.inl rfl))).trans dV)⟩
    rintro ex a3 W3 hp
    cases ex with
    | normal =>
      obtain ⟨W4, q1, q2, q3, q4, q5⟩ := fin I none W3 hI hp.1 hp.2
      exact ⟨_, _, q1, q2, .inl ⟨rfl, q3, q4, q5, hn⟩⟩
    | ret =>
      obtain ⟨W4, q1, q2, q3, q4, q5⟩ := fin (Ix .ret) (some .ret) W3 (hIx _) hp.1 hp.2
      exact ⟨_, _, q1, q2, .inr ⟨rfl, _, q3, q4, q5, hn⟩⟩
    | exit id =>
      obtain ⟨W4, q1, q2, q3, q4, q5⟩ := fin (Ix (.exit id)) (some (.exit id)) W3 (hIx _) hp.1 hp.2
      exact ⟨_, _, q1, q2, .inr ⟨rfl, _, q3, q4, q5, hn⟩⟩
    | goto t =>
      obtain ⟨W4, q1, q2, q3, q4, q5⟩ := fin (Ix (.goto t)) (some (.goto t)) W3 (hIx _) hp.1 hp.2
      exact ⟨_, _, q1, q2, .inr ⟨rfl, _, q3, q4, q5, hn⟩⟩
    | panic _ => exact hp.elim
    | outgrown => exact hp.elim
  · -- the start
    refine hI [] A (M2 A) w W1 h0 (Fr.of_below b1 fun k hk _ => hk) (fun k h => ?_)
    rcases h with h | h | h
    · exact .inl h
    · exact .inr ⟨by omega, by omega⟩
    · exact .inr ⟨by omega, by omega⟩
  · -- behind it
    have out : ∀ (K : List α → (Nat → Prop) → World → Prop) (o : Obj) (xs : List α) (W : World), Abid B K → K xs (M2 A) W → K xs (fun k => A k ∨ k = B) (W.putObj (B + 1) o) := fun K o xs W hK hk => hK.fewer (hK.put o hk (.inr (.inr rfl)) (by omega)) (fun _ h => h.imp id .inl)
    rintro e W2 ⟨⟨v, rfl⟩, (⟨hi, hr, hd, _⟩ | ⟨pre, hS, c, hi, hr, hd, _⟩)⟩
    · exact ⟨none, _, run_endLoop (P := P) hr (by simp), hdone _ _ (Nat.le_refl _) (out I _ X W2 hI hi) ((World.putObj_heap_other (by omega)).trans hd)⟩
    · exact ⟨some c, _, run_endLoop (P := P) hr (by simp), hstop _ c pre _ (Nat.le_refl _) hS (out (Ix c) _ pre W2 (hIx c) hi) ((World.putObj_heap_other (by omega)).trans hd)⟩

end Go.Proofs.YtbnnobeahliffaaGreatDoor

set_option linter.unusedVariables false
namespace Go.Proofs.YtbnnobeahliffaaGreatDoor
open Go.RowKit Go.Shelf
namespace Cls

/-- The depths of the trees that a row is, one behind the other. -/
def dpl : List Qn → Option (List Nat)
  | [] => some []
  | x :: L =>
    match dpl L with
    | none => none
    | some ds =>
      if x.kind = 1 then some (1 :: ds)
      else if x.kind = 4 ∨ x.kind = 5 then (match ds with | a :: r => some ((a + 1) :: r) | [] => none)
      else if x.kind = 2 ∨ x.kind = 3 then (match ds with | a :: b :: r => some ((1 + max b a) :: r) | _ => none)
      else none

theorem dpl_cons (x : Qn) (L : List Qn) : dpl (x :: L) =
    match dpl L with
    | none => none
    | some ds =>
      if x.kind = 1 then some (1 :: ds)
      else if x.kind = 4 ∨ x.kind = 5 then (match ds with | a :: r => some ((a + 1) :: r) | [] => none)
      else if x.kind = 2 ∨ x.kind = 3 then (match ds with | a :: b :: r => some ((1 + max b a) :: r) | _ => none)
      else none := by rw [dpl]

theorem dpl_none {x : Qn} {L : List Qn} (h : dpl L = none) : dpl (x :: L) = none := by rw [dpl_cons, h]

theorem dpl_tree (t : Qt) (h : t.ok) : ∀ r, dpl (t.flat ++ r) = (dpl r).map (t.dep :: ·) := by
  refine Qt.ind (P := fun t => ∀ r, dpl (t.flat ++ r) = (dpl r).map (t.dep :: ·)) ?_ ?_ ?_ t h
  · intro x hk r
    rw [Qt.flat0, Qt.dep0, List.singleton_append, dpl_cons]
    cases dpl r with
    | none => rfl
    | some ds => simp only [if_pos hk]; rfl
  · intro x a hk _ ih r
    rw [Qt.flat1, Qt.dep1, List.cons_append, dpl_cons, ih r]
    cases dpl r with
    | none => rfl
    | some ds =>
      show (if x.kind = 1 then _ else _) = _
      rw [if_neg (by omega), if_pos hk]
      rfl
  · intro x a b hk _ _ iha ihb r
    rw [Qt.flat2, Qt.dep2, List.cons_append, List.append_assoc, dpl_cons, iha, ihb]
    cases dpl r with
    | none => rfl
    | some ds =>
      show (if x.kind = 1 then _ else _) = _
      rw [if_neg (by omega), if_neg (by omega), if_pos hk]
      show some ((1 + max b.dep a.dep) :: ds) = some ((max a.dep b.dep + 1) :: ds)
      rw [Nat.max_comm, Nat.add_comm]

theorem dpl_ok : ∀ (l : List Qn) (ds : List Nat), dpl l = some ds → ∃ ts : List Qt, (∀ t ∈ ts, t.ok) ∧ l = ts.flatMap Qt.flat ∧ ds = ts.map Qt.dep
  | [], ds, h => by
    rw [dpl] at h
    injection h with h
    exact ⟨[], fun _ h => by simp at h, rfl, by rw [← h]; rfl⟩
  | x :: L, ds, h => by
    rw [dpl_cons] at h
    cases e : dpl L with
    | none => rw [e] at h; cases h
    | some es =>
      obtain ⟨ts, h1, h2, h3⟩ := dpl_ok L es e
      rw [e] at h
      simp only at h
      split at h
      · rename_i hk
        injection h with h
        refine ⟨⟨x, []⟩ :: ts, fun t ht => ?_, by rw [List.flatMap_cons, Qt.flat0, h2]; rfl, by rw [← h, h3]; simp [Qt.dep0]⟩
        rcases List.mem_cons.1 ht with rfl | ht
        · rw [Qt.ok0]; exact hk
        · exact h1 t ht
      split at h
      · rename_i hk
        cases ts with
        | nil => rw [h3] at h; simp at h
        | cons a ts =>
          rw [h3] at h
          simp only [List.map_cons, Option.some.injEq] at h
          refine ⟨⟨x, [a]⟩ :: ts, fun t ht => ?_, by rw [List.flatMap_cons, Qt.flat1, h2, List.flatMap_cons]; rfl, by rw [← h, List.map_cons, Qt.dep1]⟩
          rcases List.mem_cons.1 ht with rfl | ht
          · rw [Qt.ok1]; exact ⟨hk, h1 a (List.mem_cons_self ..)⟩
          · exact h1 t (List.mem_cons_of_mem _ ht)
      split at h
      · rename_i hk
        cases ts with
        | nil => rw [h3] at h; simp at h
        | cons a ts =>
          cases ts with
          | nil => rw [h3] at h; simp at h
          | cons b ts =>
            rw [h3] at h
            simp only [List.map_cons, Option.some.injEq] at h
            refine ⟨⟨x, [a, b]⟩ :: ts, fun t ht => ?_, by rw [List.flatMap_cons, Qt.flat2, h2, List.flatMap_cons, List.flatMap_cons]; simp, by rw [← h, List.map_cons, Qt.dep2, Nat.max_comm, Nat.add_comm]⟩
            rcases List.mem_cons.1 ht with rfl | ht
            · rw [Qt.ok2]; exact ⟨hk, h1 a (List.mem_cons_self ..), h1 b (List.mem_cons_of_mem _ (List.mem_cons_self ..))⟩
            · exact h1 t (List.mem_cons_of_mem _ (List.mem_cons_of_mem _ ht))
      · cases h

theorem qdep_one {l : List Qn} {d : Nat} (h : dpl l = some [d]) : qdep l = d := by
  obtain ⟨ts, h1, h2, h3⟩ := dpl_ok l _ h
  cases ts with
  | nil => simp at h3
  | cons t ts =>
    simp only [List.map_cons, List.cons.injEq] at h3
    obtain ⟨rfl, h3⟩ := h3
    cases ts with
    | nil =>
      rw [h2, List.flatMap_cons, List.flatMap_nil, List.append_nil]
      exact qdep_flat t (h1 t (List.mem_cons_self ..))
    | cons u ts => simp at h3

theorem qdep_not {l : List Qn} (h : ∀ d, dpl l ≠ some [d]) : qdep l = 0 := by
  rcases Nat.eq_zero_or_pos (qdep l) with e | e
  · exact e
  · obtain ⟨t, ht, hl, _⟩ := qdep_tree e
    have := dpl_tree t ht []
    rw [List.append_nil, ← hl] at this
    exact absurd this (h _)

/-- Depths do not outgrow the row. -/
theorem dpl_le : ∀ (l : List Qn) (ds : List Nat), dpl l = some ds → ds.length ≤ l.length ∧ ∀ d ∈ ds, d ≤ l.length
  | [], ds, h => by
    rw [dpl] at h
    injection h with h
    subst h
    exact ⟨Nat.le_refl _, fun _ h => by simp at h⟩
  | x :: L, ds, h => by
    rw [dpl_cons] at h
    cases e : dpl L with
    | none => rw [e] at h; cases h
    | some es =>
      obtain ⟨h1, h2⟩ := dpl_le L es e
      rw [e] at h
      simp only at h
      rw [List.length_cons]
      split at h
      · injection h with h
        subst h
        refine ⟨by rw [List.length_cons]; omega, fun d hd => ?_⟩
        rcases List.mem_cons.1 hd with rfl | hd
        · omega
        · have := h2 d hd; omega
      split at h
      · cases es with
        | nil => cases h
        | cons a r =>
          injection h with h
          subst h
          rw [List.length_cons] at h1
          refine ⟨by rw [List.length_cons]; omega, fun d hd => ?_⟩
          rcases List.mem_cons.1 hd with rfl | hd
          · have := h2 a (List.mem_cons_self ..); omega
          · have := h2 d (List.mem_cons_of_mem _ hd); omega
      split at h
      · cases es with
        | nil => cases h
        | cons a r =>
          cases r with
          | nil => cases h
          | cons b r =>
            injection h with h
            subst h
            rw [List.length_cons, List.length_cons] at h1
            refine ⟨by rw [List.length_cons]; omega, fun d hd => ?_⟩
            rcases List.mem_cons.1 hd with rfl | hd
            · have := h2 a (List.mem_cons_self ..)
              have := h2 b (List.mem_cons_of_mem _ (List.mem_cons_self ..))
              omega
            · have := h2 d (List.mem_cons_of_mem _ (List.mem_cons_of_mem _ hd)); omega
      · cases h

/-- What does not come to depths at a row's end does not come to any. -/
theorem dpl_up {l : List Qn} : ∀ i, dpl (l.drop i) = none → dpl l = none
  | 0, h => by rw [List.drop_zero] at h; exact h
  | i + 1, h => by
    by_cases hi : i < l.length
    · refine dpl_up i ?_
      rw [List.drop_eq_getElem_cons hi]
      exact dpl_none h
    · rw [List.drop_eq_nil_of_le (by omega), dpl] at h
      cases h

/-- A node at a place. -/
def qvat (L : List Qv) (i : Nat) : Qv := L.getD i ⟨⟨0, 0, [], 0⟩, none, 0⟩

theorem qvat_at {L : List Qv} {i : Nat} (h : i < L.length) : qvat L i = L[i] := by unfold qvat; rw [List.getD_eq_getElem?_getD, List.getElem?_eq_getElem h]; rfl

/-- What Backward hands over. -/
abbrev encB (L : List Qv) (i : Nat) : Array Value := #[.int .i64 (i : Int), .agg #[.int .i64 (qvat L i).i.kind, .int .i64 (qvat L i).i.n, .slice (qvat L i).ao (qvat L i).i.p.length (qvat L i).cap, .int .i64 (qvat L i).i.k]]

def bwd (n : Nat) : List Nat := (List.range n).reverse

theorem bwd_at {n k : Nat} (h : k < n) : (bwd n)[k]? = some (n - 1 - k) := by
  unfold bwd
  rw [List.getElem?_reverse (by simpa using h), List.length_range, List.getElem?_range (by omega)]

theorem bwd_take (n k : Nat) (h : k < n) : (bwd n).take k ++ [n - 1 - k] = (bwd n).take (k + 1) := by
  have hl : k < (bwd n).length := by unfold bwd; simpa using h
  have := bwd_at h
  rw [List.getElem?_eq_getElem hl] at this
  injection this with this
  rw [← List.take_append_getElem hl, this]

theorem bwd_pre {n x : Nat} {pre : List Nat} (h : (pre ++ [x]) <+: bwd n) : pre.length < n ∧ x = n - 1 - pre.length := by
  obtain ⟨t, ht⟩ := h
  have h1 : pre.length < (bwd n).length := by rw [← ht]; simp
  have h1' : pre.length < n := by unfold bwd at h1; simpa using h1
  have h2 := bwd_at h1'
  rw [← ht, List.append_assoc, List.getElem?_append_right (Nat.le_refl _)] at h2
  simp at h2
  exact ⟨h1', h2⟩

/-- The blocks in which a row, and the box of its slice, lie. -/
def BlkB (bb : Nat) (so : Option Addr) (n k : Nat) : Prop := k = bb ∨ (1 ≤ n ∧ ∃ o, so = some ⟨k, o, none⟩)

set_option maxRecDepth 100000 in
set_option maxHeartbeats 4000000 in
theorem backward_seq (n cap bb : Nat) (so : Option Addr) (L : List Qv) (hn : L.length = n) (w : World) (hL : QR w so L) (hb : w.cell? ⟨bb, 0, none⟩ = some (.slice so n cap)) :
    SeqM Tryz.prog 56 #[.pointer (some ⟨bb, 0, none⟩)] (encB L) (BlkB bb so n) (bwd n) w := fun l J Jx W hW hJ hJx hY h0 => by
  have hn2 : n ≤ 4398046511104 := by have := hL.small; omega
  have hL' := hL.grow hW
  have hlt : bb < w.heap.size := World.block_lt_of_cell? w _ hb
  have hb' : W.cell? ⟨bb, 0, none⟩ = some (.slice so n cap) := (hW.cell (p := ⟨bb, 0, none⟩) hlt).trans hb
  have hlt' : bb < W.heap.size := Nat.lt_of_lt_of_le hlt hW.size
  have HY : Hid _ := hY
  have H0 : Hid _ := h0
  have HL : Hid (QR W so L) := hL'
  have HN : Hid (L.length = n) := hn
  have HB : Hid _ := hb'
  have HMB : Hid (∀ k, BlkB bb so n k → k < W.heap.size) := fun k hk => by
    rcases hk with rfl | ⟨h1, o, e⟩
    · exact hlt'
    · obtain ⟨b, o', e', hb2, _⟩ := hL'.lies (by omega)
      rw [e] at e'
      injection e' with e'
      injection e' with e' _ _
      omega
  clear hY hJ hJx hW h0 hL hL' hn hb hlt
  refine (callsIn_wide (n := 9)).1 (callsIn_of_wp Tryz.func56 rfl trivial ?_ rfl)
  refine wpIn_wide.2 ?_
  simp only [Tryz.ntmps56, List.size_toArray, List.length_cons, List.length_nil, Nat.reduceAdd, Nat.reduceSub, Array.replicate_succ, Array.replicate_zero, List.push_toArray, List.append_toArray, List.nil_append, List.cons_append]
  go_wp2_with fail
  refine (wpIn_wide (n := 9)).1 ?_
  gi_loopw [3] (fun p wr => ∃ k : Nat, p = .int .i64 ((n : Int) - 1 - (k : Int)) ∧ k ≤ n ∧ J ((bwd n).take k) (BlkB bb so n) wr ∧ Fr (BlkB bb so n) W wr) (fun p _ => (intOf p + 1).toNat)
  case atStart => exact ⟨0, by go_num, Nat.zero_le _, H0.out, Fr.refl _ _⟩
  case round =>
    obtain ⟨k, rfl, hk, hJ, hF⟩ := hrel
    have HF : Hid _ := hF
    have hbb : wr.cell? ⟨bb, 0, none⟩ = some (.slice so n cap) := (HF.out.cell (p := ⟨bb, 0, none⟩) (.inl rfl) hlt').trans HB.out
    by_cases hkn : k < n
    · obtain ⟨q, hq⟩ : ∃ q : Nat, (n : Int) - 1 - (k : Int) = (q : Int) := ⟨n - 1 - k, by omega⟩
      have hqn : q < n := by omega
      have hq2 : n - 1 - k = q := by omega
      have hqI : (0 : Int) ≤ (q : Int) := by omega
      have hqJ : (q : Int) < (n : Int) := by omega
      obtain ⟨b, o, e, hbl, hC⟩ := HL.out.lies (by rw [HN.out]; omega)
      obtain ⟨c0, c1, c2, c3⟩ := hC q (by rw [HN.out]; exact hqn)
      have hbk : BlkB bb so n b := .inr ⟨by omega, o, e⟩
      have d0 := (HF.out.cell (p := ⟨b, o + q * 4, none⟩) hbk hbl).trans c0
      have d1 := (HF.out.cell (p := ⟨b, o + q * 4 + 1, none⟩) hbk hbl).trans c1
      have d2 := (HF.out.cell (p := ⟨b, o + q * 4 + 2, none⟩) hbk hbl).trans c2
      have d3 := (HF.out.cell (p := ⟨b, o + q * 4 + 3, none⟩) hbk hbl).trans c3
      have hpre : (bwd n).take k ++ [q] = (bwd n).take (k + 1) := by rw [← hq2]; exact bwd_take n k hkn
      have hP : (bwd n).take k ++ [q] <+: bwd n := by rw [hpre]; exact List.take_prefix _ _
      have hY := HY.out ((bwd n).take k) _ q wr hJ (fun k hk => Nat.lt_of_lt_of_le (HMB.out k hk) HF.out.size) hP
      unfold encB at hY
      rw [qvat_at (show q < L.length by rw [HN.out]; exact hqn)] at hY
      rw [hq]
      have HP : Hid _ := hP
      have HPR : Hid _ := hpre
      clear hC c0 c1 c2 c3 hpre hP HY
      obtain rfl := e
      generalize L[q]'(by rw [HN.out]; exact hqn) = x at *
      generalize x.i.kind = xk at *
      generalize x.i.n = xn at *
      generalize x.i.p.length = xl at *
      generalize x.i.k = xK at *
      generalize x.ao = xo at *
      generalize x.cap = xc at *
      obtain ⟨fn, tmps, assign, body, hy, hR⟩ := hY
      have hRR : Hid _ := hR
      have HQ : Hid ((n : Int) - 1 - (k : Int) = (q : Int)) := hq
      clear hR hq hq2 hF
      gi_wp2
      refine RoundIn.mono (RoundIn.anyN (Hid.out hRR)) ?_
      rintro e W3 ⟨hf3, (⟨rfl, hJ3⟩ | ⟨rfl, hJx3⟩)⟩
      · have HF3 : Hid (Fr (BlkB bb (some ⟨b, o, none⟩) n) W W3) := HF.out.trans hf3
        have HJ3 : Hid _ := hJ3
        clear hf3 hJ3
        gi_wp2
        go_roundw
        case rel => exact ⟨k + 1, by have := HQ.out; go_num, by omega, by rw [← HPR.out]; exact HJ3.out, HF3.out⟩
        case measure => first | (simp [intOf]; done) | (simp [intOf]; omega)
      · gi_wp2
        refine bodyPost_ret (results_none rfl _ _ _) rfl ?_
        exact ⟨⟨_, rfl⟩, .inr ⟨_, HP.out, hJx3⟩⟩
    · obtain rfl : k = n := by omega
      have hI : ¬ (0 : Int) ≤ (k : Int) - 1 - (k : Int) := by omega
      have e2 : Hid ((bwd k).take k = bwd k) := by show _ = _; rw [List.take_of_length_le]; unfold bwd; simp
      have HJ : Hid _ := hJ
      clear hJ hF
      gi_wp2
      go_end0
      exact ⟨⟨_, rfl⟩, .inl (by rw [← e2.out]; exact HJ.out)⟩

end Cls

end Go.Proofs.YtbnnobeahliffaaGreatDoor

set_option linter.unusedVariables false
namespace Go.Proofs.YtbnnobeahliffaaGreatDoor
open Go.RowKit Go.Shelf
namespace Cls

/-- The two blocks are not one. -/
theorem row_box {W : World} {B n₀ n g : Nat} {t e : TypeId} {v u : Value} {L : List Value} (hb : Boxed W B t u) (hr : W.ownsRow n₀ e 1 v n L) (hg : v.ownBlock = some g) (hte : t ≠ e) : g ≠ B := by
  rintro rfl
  obtain ⟨_, ⟨e1, _⟩ | ⟨g', cap, cur, e1, _, h2, _⟩⟩ := hr
  · rw [e1] at hg; cases hg
  · rw [e1] at hg
    simp [Value.ownBlock] at hg
    subst hg
    have hb' : W.heap[g']? = _ := hb
    rw [h2] at hb'
    simp only [Option.some.injEq, Obj.cells.injEq] at hb'
    exact hte hb'.2.1.symm

/-- An element of a boxed row is written. -/
theorem RB.put {W : World} {B n₀ g n cap : Nat} {t e : TypeId} {L : List Value} {M : Nat → Prop} (hv : Boxed W B t (.slice (some ⟨g, 0, none⟩) n cap)) (hr : W.ownsRow n₀ e 1 (.slice (some ⟨g, 0, none⟩) n cap) n L) (hte : t ≠ e) (hM : ¬ M g) (j : Nat) (hj : j < n) (u : Value) :
    Fr M W (W.setCell ⟨g, j, none⟩ u) ∧ Boxed (W.setCell ⟨g, j, none⟩ u) B t (.slice (some ⟨g, 0, none⟩) n cap) ∧ (W.setCell ⟨g, j, none⟩ u).ownsRow n₀ e 1 (.slice (some ⟨g, 0, none⟩) n cap) n (L.set j u) ∧ Below n₀ W (W.setCell ⟨g, j, none⟩ u) := by
  have hne := row_box hv hr rfl hte
  refine ⟨(Fr.refl M W).setCell hM u, (Below.heap_setCell _ _ _ _ (by show B ≠ g; exact hne.symm)).trans hv, own_set hr j (by omega) u, (Below.refl n₀ W).setCell (p := ⟨g, j, none⟩) ?_ u⟩
  exact (ownsRow_at hr rfl).1

theorem results_cell1 {fn : Func} {p : Tmp} (h : fn.results = #[.cell p 3]) (tmps : Array Value) (v : World) (a : Nat) {x : Int} (hp : tmps.getD p undef = .pointer (some ⟨a, 0, none⟩)) (c0 : v.cell? ⟨a, 0, none⟩ = some (.int .i64 x)) :
    (results fn tmps).run Tryz.prog v = .ok (.int .i64 x) v := by
  have hp' : tmps[p]?.getD undef = .pointer (some ⟨a, 0, none⟩) := by simpa using hp
  simp [results, h, hp', asAddr, go_sem, c0]

/-- What a row of ints is. -/
theorem ints_form {w : World} {B : Nat} {v : Value} {L : List Nat} (h : w.ownsRow B 3 1 v (pls L).length (pls L)) : ∃ so c, v = .slice so L.length c := by
  rw [pls_len] at h
  obtain ⟨_, ⟨e, e2⟩ | ⟨g, cap, cur, e, _⟩⟩ := h
  · exact ⟨none, 0, by rw [e, e2]⟩
  · exact ⟨_, _, e⟩

set_option maxRecDepth 100000 in
theorem backward_made (n cap : Nat) (so : Option Addr) (w : World) :
    Calls Tryz.prog 33 #[.slice so n cap] w fun e w' => e = .returned (.func (.func 56) #[] #[.pointer (some ⟨w.heap.size, 0, none⟩)]) ∧ w'.cell? ⟨w.heap.size, 0, none⟩ = some (.slice so n cap) ∧ w'.heap.size = w.heap.size + 1 ∧ Below w.heap.size w w' := by
  have hb : (w.alloc (.cells #[.slice so n cap] 23)).heap[w.heap.size]? = some (.cells #[.slice so n cap] 23) := World.alloc_heap_new w _
  have HC : Hid ((w.alloc (.cells #[.slice so n cap] 23)).cell? ⟨w.heap.size, 0, none⟩ = some (.slice so n cap)) := by
    show _ = _
    unfold World.cell?
    rw [hb]
    rfl
  have HB : Hid (Below w.heap.size w (w.alloc (.cells #[.slice so n cap] 23))) := al_below _ _
  clear hb
  go_enter Tryz.func33, Tryz.ntmps33
  go_wp2_with fail
  go_ret
  exact ⟨rfl, HC.out, al_size _ _, HB.out⟩

set_option maxRecDepth 100000 in
set_option maxHeartbeats 4000000 in
theorem qdepth_any (n cap : Nat) (so : Option Addr) (L : List Qv) (hn : L.length = n) (hn9 : n ≤ 100000) (w : World) (hL : QR w so L) :
    Calls Tryz.prog 15 #[.slice so n cap] w fun e w' => e = .returned (.int .i64 (qdep (qis L) : Int)) ∧ Below w.heap.size w w' := by
  obtain ⟨w1, e1⟩ : ∃ w1, w1 = w.alloc (.cells #[.int .i64 0] 3) := ⟨_, rfl⟩
  obtain ⟨w2, e2⟩ : ∃ w2, w2 = w1.alloc (.cells #[.slice none 0 0] 71) := ⟨_, rfl⟩
  have z1 : w1.heap.size = w.heap.size + 1 := by rw [e1, al_size]
  have z2 : w2.heap.size = w.heap.size + 1 + 1 := by rw [e2, al_size, z1]
  have x1 : Boxed w1 w.heap.size 3 (.int .i64 0) := by rw [e1]; exact Boxed.new w _ _
  have x2 : Boxed w2 (w.heap.size + 1) 71 (.slice none 0 0) := by rw [e2, ← z1]; exact Boxed.new w1 _ _
  have x12 : Boxed w2 w.heap.size 3 (.int .i64 0) := by rw [e2]; exact x1.alloc _
  have b1 : Below w.heap.size w w1 := by rw [e1]; exact al_below _ _
  have b2 : Below w1.heap.size w1 w2 := by rw [e2]; exact al_below _ _
  have B2 : Hid (Below w.heap.size w w2) := bgrow' b1 b2
  have E2 : Hid (w2 = (w.alloc (.cells #[.int .i64 0] 3)).alloc (.cells #[.slice none 0 0] 71)) := by show _ = _; rw [e2, e1]
  have XX : Hid (Boxed w2 w.heap.size 3 (.int .i64 0) ∧ Boxed w2 (w.heap.size + 1) 71 (.slice none 0 0)) := ⟨x12, x2⟩
  have HL : Hid _ := hL
  have HN : Hid (L.length = n) := hn
  have cc : Hid _ := backward_made n cap so w2
  have Z2 : Hid _ := z2
  clear e1 e2 z1 z2 x1 x2 x12 b1 b2 hL hn
  refine (callsIn_wide (n := 9)).1 (callsIn_of_wp_marks Tryz.func15 rfl trivial ?_ rfl)
  refine wpIn_wide.2 ?_
  simp only [Tryz.ntmps15, List.size_toArray, List.length_cons, List.length_nil, Nat.reduceAdd, Nat.reduceSub, Array.replicate_succ, Array.replicate_zero, List.push_toArray, List.append_toArray, List.nil_append, List.cons_append]
  go_wp2_with fail
  refine wp_scope_straight ?_
  go_wp2_with (first | rw [← E2.out])
  refine wp_label ?_
  go_wp2_with fail
  refine Calls.mono (Hid.out cc) ?_; rintro e w4 ⟨rfl, c4, z4, b4⟩
  have hsq := backward_seq n cap w2.heap.size so L HN.out w4 ((HL.out.grow B2.out).grow b4) c4
  have r0 : w.heap.size < w4.heap.size := by have := Z2.out; omega
  have r1 : w.heap.size + 1 < w4.heap.size := by have := Z2.out; omega
  have XX4 : Hid (Boxed w4 w.heap.size 3 (.int .i64 0) ∧ Boxed w4 (w.heap.size + 1) 71 (.slice none 0 0)) := ⟨(b4.block _ (by have := Z2.out; omega)).trans XX.out.1, (b4.block _ (by have := Z2.out; omega)).trans XX.out.2⟩
  have B4 : Hid (Below w.heap.size w w4) := bgrow' B2.out b4
  have hAl : Hid (∀ k, BlkB w2.heap.size so n k → k ≠ w.heap.size ∧ k ≠ w.heap.size + 1 ∧ k < w4.heap.size) := by
    have hz := Z2.out
    rintro k (h | ⟨hn, o, h⟩)
    · omega
    · obtain ⟨b, o', e, hlt, _⟩ := HL.out.lies (by rw [HN.out]; exact hn)
      rw [e] at h
      injection h with h
      injection h with h _ _
      omega
  have HSQ : Hid _ := hsq
  clear cc E2 XX B2 b4 c4 hsq
  go_wp2_with fail
  refine (wpIn_wide (n := 9)).1 ?_
  refine' wp_seqB (gf := 56) rfl (enters_of Tryz.func56 (by kernel_rfl) rfl) HSQ.out (fun _ => rfl) (fun k h => (hAl.out k h).2.2)
    (fun pre M W => (∃ ds, dpl ((qis L).drop (n - pre.length)) = some ds ∧ RB W (w.heap.size + 1) (w.heap.size + 1) 71 3 (pls ds.reverse) M) ∧ (Boxed W w.heap.size 3 (.int .i64 0) ∧ ¬ M w.heap.size) ∧ Below w.heap.size w W)
    (fun c pre M W => (c = .ret ∧ dpl (qis L) = none) ∧ (Boxed W w.heap.size 3 (.int .i64 0) ∧ ¬ M w.heap.size) ∧ Below w.heap.size w W)
    ?abid ?abidx ?start
    (fun i => .cells #[.int .i64 (qvat L i).i.kind, .int .i64 (qvat L i).i.n, .slice (qvat L i).ao (qvat L i).i.p.length (qvat L i).cap, .int .i64 (qvat L i).i.k] 36)
    (fun i g => { tmps := #[.slice so n cap, undef, .pointer (some ⟨w.heap.size, 0, none⟩), .pointer (some ⟨w.heap.size + 1, 0, none⟩), undef, .pointer (some ⟨g, 0, none⟩), undef, .slice so n cap, .func (.func 56) #[] #[.pointer (some ⟨w2.heap.size, 0, none⟩)], .int .i64 (i : Int), .agg #[.int .i64 (qvat L i).i.kind, .int .i64 (qvat L i).i.n, .slice (qvat L i).ao (qvat L i).i.p.length (qvat L i).cap, .int .i64 (qvat L i).i.k], undef, undef, undef, undef, undef, undef, undef, undef, undef, undef, undef, undef, undef, undef, undef, undef, undef, undef, undef, undef, undef, undef, undef, undef, undef, undef, undef, undef, undef, undef, undef, undef, undef, undef, undef, undef, undef, undef, undef, undef, undef, undef, undef, undef, undef, undef, undef, undef, undef, undef, undef, undef], defers := [] }) ?assign ?body ?done ?stop
  case abid =>
    rintro s M M' W W' ⟨⟨ds, h1, h2⟩, h3, h4⟩ hf hm
    exact ⟨⟨ds, h1, RB.abid (β := Unit) w4.heap.size _ _ _ _ (fun _ => pls ds.reverse) () M M' W W' h2 hf hm⟩, boxed_abid _ _ _ _ () M M' W W' h3 hf hm, Abid.below (β := Unit) (Nat.le_refl _) (by omega) () M M' W W' h4 hf hm⟩
  case abidx =>
    rintro c s M M' W W' ⟨h1, h3, h4⟩ hf hm
    exact ⟨h1, boxed_abid _ _ _ _ () M M' W W' h3 hf hm, Abid.below (β := Unit) (Nat.le_refl _) (by omega) () M M' W W' h4 hf hm⟩
  case start =>
    refine ⟨⟨[], by rw [List.length_nil, Nat.sub_zero, List.drop_eq_nil_of_le (by rw [qis_len, HN.out]; exact Nat.le_refl _)]; rfl, ⟨_, XX4.out.2, World.ownsRow_nil _ _ _ _, fun h => (hAl.out _ h).2.1 rfl, fun g h => by cases h⟩⟩, ⟨XX4.out.1, fun h => (hAl.out _ h).1 rfl⟩, B4.out⟩
  case assign =>
    intro l' x' V' K' hK
    clear HSQ XX4 B4 hAl Z2
    gi_wp2
    exact hK
  case stop =>
    rintro D c pre V hD hp ⟨⟨rfl, hnone⟩, ⟨h6, _⟩, hb⟩ hK
    have HK : Hid _ := hK
    have EH : Hid (qdep (qis L) = 0) := qdep_not (fun d e => by rw [hnone] at e; cases e)
    have HX : Hid (Boxed V w.heap.size 3 (.int .i64 0) ∧ Below w.heap.size w V) := ⟨h6, hb⟩
    clear HSQ XX4 B4 hAl Z2 hK h6 hb
    gi_wp2
    refine ⟨by simp, .inl ⟨_, _, rfl, run_takeDeferred HK.out, ?_⟩⟩
    have k6 : (V.putObj D (.deferred none)).cell? ⟨w.heap.size, 0, none⟩ = some (.int .i64 0) := (show Boxed _ _ _ _ from (World.putObj_heap_other (by omega)).trans HX.out.1).cell
    refine ⟨_, results_cell1 rfl _ _ _ rfl k6, by rw [EH.out]; rfl, HX.out.2.trans (belowK_b (w := w) (Nat.le_refl _) V D _ _ (by omega) HK.out rfl rfl)⟩
  case done =>
    rintro D V hD ⟨⟨ds, hds, v, hv, hr, _, _⟩, ⟨h6, _⟩, hb⟩ hK
    have hbl : (bwd n).length = n := by unfold bwd; simp
    rw [hbl, Nat.sub_self, List.drop_zero] at hds
    have HK : Hid (V.heap[D]? = some (.deferred (some []))) := hK
    have HX : Hid (Boxed V w.heap.size 3 (.int .i64 0) ∧ Below w.heap.size w V) := ⟨h6, hb⟩
    have q6 := h6.cell
    have f6 := h6.frozen
    have q7 := hv.cell
    obtain ⟨so', c', rfl⟩ := ints_form hr
    rw [List.length_reverse] at *
    have fin : Hid (∀ x : Int, x = (qdep (qis L) : Int) → ∃ V1, V1 = V.setCell ⟨w.heap.size, 0, none⟩ (.int .i64 x) ∧ V1.heap[D]? = some (.deferred (some [])) ∧ (V1.putObj D (.deferred none)).cell? ⟨w.heap.size, 0, none⟩ = some (.int .i64 x) ∧ Below w.heap.size w (V1.putObj D (.deferred none))) := fun x _ => by
      obtain ⟨V1, hV1⟩ : ∃ V1, V1 = V.setCell ⟨w.heap.size, 0, none⟩ (.int .i64 x) := ⟨_, rfl⟩
      have k6 : Boxed V1 w.heap.size 3 (.int .i64 x) := by rw [hV1]; exact HX.out.1.set _
      have kD : V1.heap[D]? = some (.deferred (some [])) := by rw [hV1, Below.heap_setCell _ _ _ _ (by show D ≠ w.heap.size; omega)]; exact HK.out
      have kb : Below w.heap.size w V1 := by rw [hV1]; exact HX.out.2.setCell (p := ⟨w.heap.size, 0, none⟩) (Nat.le_refl _) _
      exact ⟨V1, hV1, kD, (show Boxed _ _ _ _ from (World.putObj_heap_other (by omega)).trans k6).cell, kb.trans (belowK_b (w := w) (Nat.le_refl _) V1 D _ _ (by omega) kD rfl rfl)⟩
    by_cases h1 : ds.length = 1
    · obtain ⟨d, rfl⟩ := List.length_eq_one_iff.1 h1
      have hq := qdep_one hds
      obtain ⟨g, cap, e, _, _, _, _, hc, _, _⟩ := own_at hr (by simp [pls])
      injection e with e1 _ _
      subst e1
      have hc0 : V.cell? ⟨g, 0, none⟩ = some (.int .i64 (d : Int)) := hc 0 (by simp [pls])
      replace q7 : V.cell? ⟨w.heap.size + 1, 0, none⟩ = some (.slice (some ⟨g, 0, none⟩) 1 c') := q7
      obtain ⟨V1, hV1, kD, k6, kb⟩ := fin.out (d : Int) (by rw [hq])
      have HV : Hid _ := hV1
      have HF : Hid _ := And.intro kD (And.intro k6 kb)
      have HQ : Hid _ := hq
      clear HSQ XX4 B4 hAl Z2 hK h6 hv hr hb hds fin hV1 kD k6 kb HX hq hc h1
      go_wp2_with fail
      rw [← HV.out]
      refine ⟨by simp, .inl ⟨_, _, rfl, run_takeDeferred HF.out.1, ?_⟩⟩
      refine ⟨_, results_cell1 rfl _ _ _ rfl HF.out.2.1, by rw [HQ.out], HF.out.2.2⟩
    · have hq : qdep (qis L) = 0 := qdep_not (fun d e => by rw [hds] at e; injection e with e; rw [e] at h1; exact h1 rfl)
      have hI : ((ds.length : Int) != 1) = true := by
        have : ¬ (ds.length : Int) = 1 := by omega
        simpa using this
      obtain ⟨V1, hV1, kD, k6, kb⟩ := fin.out 0 (by rw [hq]; rfl)
      have HV : Hid _ := hV1
      have HF : Hid _ := And.intro kD (And.intro k6 kb)
      have HQ : Hid _ := hq
      clear HSQ XX4 B4 hAl Z2 hK h6 hv hr hb hds fin hV1 kD k6 kb HX hq h1
      generalize ds.length = m at *
      go_wp2_with fail
      rw [← HV.out]
      refine ⟨by simp, .inl ⟨_, _, rfl, run_takeDeferred HF.out.1, ?_⟩⟩
      refine ⟨_, results_cell1 rfl _ _ _ rfl HF.out.2.1, by rw [HQ.out]; rfl, HF.out.2.2⟩
  case body =>
    rintro lp pre M i V ⟨⟨ds, hds, v, hv, hr, hB, hg⟩, ⟨h6, hB6⟩, hb⟩ hMV hp g hg0 hgM hgob
    obtain ⟨hpn, hi⟩ := bwd_pre hp
    have hin : i < n := by omega
    have hiq : i < (qis L).length := by rw [qis_len, HN.out]; exact hin
    have hdr : (qis L).drop (n - (pre ++ [i]).length) = (qvat L i).i :: (qis L).drop (n - pre.length) := by
      have e1 : n - (pre ++ [i]).length = i := by rw [List.length_append, List.length_singleton]; omega
      have e2 : n - pre.length = i + 1 := by omega
      rw [e1, e2, List.drop_eq_getElem_cons hiq, qis_at L i (by rw [HN.out]; exact hin), qvat_at (by rw [HN.out]; exact hin)]
    have hdle := dpl_le _ _ hds
    rw [List.length_drop, qis_len, HN.out] at hdle
    have hno : ∀ h : dpl ((qvat L i).i :: (qis L).drop (n - pre.length)) = none, dpl (qis L) = none := fun h => by
      rw [← hdr] at h
      exact dpl_up _ h
    rw [dpl_cons, hds] at hno
    have HST : Hid (∀ ds', (if (qvat L i).i.kind = 1 then some (1 :: ds) else if (qvat L i).i.kind = 4 ∨ (qvat L i).i.kind = 5 then (match ds with | a :: r => some ((a + 1) :: r) | [] => none) else if (qvat L i).i.kind = 2 ∨ (qvat L i).i.kind = 3 then (match ds with | a :: b :: r => some ((1 + max b a) :: r) | _ => none) else none) = some ds' → dpl ((qis L).drop (n - (pre ++ [i]).length)) = some ds') := fun ds' h => by rw [hdr, dpl_cons, hds]; exact h
    have HNO : Hid _ := hno
    have g0 : V.cell? ⟨g, 0, none⟩ = some (.int .i64 (qvat L i).i.kind) := by unfold World.cell?; rw [hgob]; rfl
    obtain ⟨so', c', rfl⟩ := ints_form hr
    rw [List.length_reverse] at hv hr hg
    have HV : Hid (Boxed V (w.heap.size + 1) 71 (.slice so' ds.length c')) := hv
    have HR : Hid (V.ownsRow (w.heap.size + 1) 3 1 (.slice so' ds.length c') (pls ds.reverse).length (pls ds.reverse)) := hr
    have HG : Hid (¬ M (w.heap.size + 1) ∧ (∀ g, (Value.slice so' ds.length c').ownBlock = some g → ¬ M g) ∧ ∀ k, M k → k < V.heap.size) := ⟨hB, hg, hMV⟩
    have HX : Hid (Boxed V w.heap.size 3 (.int .i64 0) ∧ ¬ M w.heap.size ∧ Below w.heap.size w V) := ⟨h6, hB6, hb⟩
    have hc := hv.cell
    have hcf := hv.frozen
    have q6 := h6.cell
    have f6 := h6.frozen
    have hsz : w.heap.size ≤ V.heap.size := hb.size
    have hlt := hv.lt
    have hpl : (pls ds.reverse).length = ds.length := by rw [pls_len, List.length_reverse]
    clear HSQ XX4 B4 hAl Z2 hv hr hB hg hMV hb hds hdr hno hp h6 hB6 hgob hiq hi hgM hg0
    generalize (qvat L i).i.kind = xk at *
    generalize (qvat L i).i.n = xn at *
    generalize (qvat L i).i.k = xK at *
    generalize (qvat L i).i.p.length = xl at *
    generalize (qvat L i).ao = xo at *
    generalize (qvat L i).cap = xc at *
    by_cases h1 : xk = 1
    · have q1 : (xk == 1) = true := by simpa using h1
      have HD : Hid _ := HST.out (1 :: ds) (if_pos h1)
      have hlen9 : ds.length ≤ 100000 := by omega
      obtain ⟨i0, hi, hz0, hz1, hz2⟩ := infoI
      generalize hm : ds.length = m at *
      clear h1 HST HNO hdle
      gi_wp2_with (first | (gi_at_builtin; refine wpListIn_append_own_at _ rfl _ _ 71 rfl (w.heap.size + 1) 3 i0 (.int .i64 0) 1 8 Tryz.underlying71 hi hz0 hz1 hz2 rfl (by decide) _ _ _ rfl (World.ownsRow.alloc HR.out _) ⟨V.heap.size, 0, none⟩ 1 1 [.int .i64 1] rfl rfl (cell_one_new _ _ _) (by simp [Value.oneCell']) (by unfold maxLen; omega) (by omega) (by simp; omega) ?_; intro v' w1 hown' hgrow hnil hat; obtain ⟨g', cap', rfl⟩ := ownsRow_succ hown'; obtain ⟨r1, r2, r3, r4⟩ := RB.append HV.out HR.out HG.out.1 HG.out.2.1 HG.out.2.2 (by decide) (by omega) (Nat.le_refl _) hown' hgrow hat; have hc1 := r4.cell; have hf1 := r4.frozen))
      rw [hpl] at r1 r2 r3
      refine ⟨r1, ⟨_, HD.out, ?_⟩, ⟨(r3.block _ (by omega)).trans HX.out.1, HX.out.2.1⟩, HX.out.2.2.trans (r3.mono (by omega))⟩
      have e1 : pls ((1 :: ds).reverse) = pls ds.reverse ++ [.int .i64 1] := by rw [List.reverse_cons, pls_snoc]; rfl
      rw [e1]
      exact r2
    have q1 : (xk == 1) = false := by simpa using h1
    have RET : Hid (dpl (qis L) = none → postM M
        (fun pre M W => (∃ ds, dpl ((qis L).drop (n - pre.length)) = some ds ∧ RB W (w.heap.size + 1) (w.heap.size + 1) 71 3 (pls ds.reverse) M) ∧ (Boxed W w.heap.size 3 (.int .i64 0) ∧ ¬ M w.heap.size) ∧ Below w.heap.size w W)
        (fun c pre M W => (c = .ret ∧ dpl (qis L) = none) ∧ (Boxed W w.heap.size 3 (.int .i64 0) ∧ ¬ M w.heap.size) ∧ Below w.heap.size w W) (pre ++ [i]) V .ret { tmps := #[], defers := [] } (V.setCell ⟨w.heap.size, 0, none⟩ (.int .i64 0))) := fun h =>
      ⟨(Fr.refl M V).setCell HX.out.2.1 _, ⟨rfl, h⟩, ⟨HX.out.1.set _, HX.out.2.1⟩, HX.out.2.2.setCell (p := ⟨w.heap.size, 0, none⟩) (Nat.le_refl _) _⟩
    by_cases h4 : xk = 4 ∨ xk = 5
    · have q2 : (xk == 2) = false := beq_eq_false_iff_ne.2 (by omega)
      have q3 : (xk == 3) = false := beq_eq_false_iff_ne.2 (by omega)
      cases ds with
      | nil =>
        have HN2 : Hid _ := RET.out (HNO.out (by simp only; rw [if_neg h1, if_pos h4]))
        rcases h4 with h4 | h4
        · subst h4
          clear HST HNO hdle RET h1
          gi_wp2
          exact ⟨HN2.out.1, ⟨rfl, HN2.out.2.1.2⟩, HN2.out.2.2⟩
        · subst h4
          clear HST HNO hdle RET h1
          gi_wp2
          exact ⟨HN2.out.1, ⟨rfl, HN2.out.2.1.2⟩, HN2.out.2.2⟩
      | cons a r =>
        have HD : Hid _ := HST.out ((a + 1) :: r) (by rw [if_neg h1, if_pos h4])
        have ha9 : a ≤ 100000 := by have := hdle.2 a (List.mem_cons_self ..); omega
        have hr9 : r.length ≤ 100000 := by have := hdle.1; rw [List.length_cons] at this; omega
        obtain ⟨gd, cd, e, hgd1, hgd2, hgd3, hgd4, hgc, hgf, _⟩ := own_at HR.out (by rw [hpl, List.length_cons]; omega)
        injection e with e1 _ e3
        subst e1 e3
        have erev : pls (a :: r).reverse = pls r.reverse ++ [.int .i64 (a : Int)] := by rw [List.reverse_cons, pls_snoc]
        have hl1 : (pls r.reverse).length = r.length := by rw [pls_len, List.length_reverse]
        have hrc : V.cell? ⟨gd, r.length, none⟩ = some (.int .i64 (a : Int)) := by
          rw [hgc _ (by rw [hpl, List.length_cons]; omega), erev, List.getElem?_append_right (by omega), hl1, Nat.sub_self]
          rfl
        have hrf := hgf r.length
        have HR2 : Hid (V.ownsRow (w.heap.size + 1) 3 1 (.slice (some ⟨gd, 0, none⟩) (r.length + 1) c') (r.length + 1) (pls (a :: r).reverse)) := by
          have := HR.out
          rw [hpl] at this
          exact this
        have HV2 : Hid (Boxed V (w.heap.size + 1) 71 (.slice (some ⟨gd, 0, none⟩) (r.length + 1) c')) := HV.out
        have PT : Hid _ := RB.put (M := M) HV2.out HR2.out (by decide) (HG.out.2.1 gd rfl) r.length (by omega) (.int .i64 ((a + 1 : Nat) : Int))
        have hE : Hid ((pls (a :: r).reverse).set r.length (.int .i64 ((a + 1 : Nat) : Int)) = pls ((a + 1) :: r).reverse) := by
          show _ = _
          rw [erev, List.reverse_cons, pls_snoc, List.set_append, if_neg (by omega), hl1, Nat.sub_self]
          rfl
        have FIN : Hid (postM M
            (fun pre M W => (∃ ds, dpl ((qis L).drop (n - pre.length)) = some ds ∧ RB W (w.heap.size + 1) (w.heap.size + 1) 71 3 (pls ds.reverse) M) ∧ (Boxed W w.heap.size 3 (.int .i64 0) ∧ ¬ M w.heap.size) ∧ Below w.heap.size w W)
            (fun c pre M W => (c = .ret ∧ dpl (qis L) = none) ∧ (Boxed W w.heap.size 3 (.int .i64 0) ∧ ¬ M w.heap.size) ∧ Below w.heap.size w W) (pre ++ [i]) V .normal { tmps := #[], defers := [] } (V.setCell ⟨gd, r.length, none⟩ (.int .i64 ((a + 1 : Nat) : Int)))) := by
          obtain ⟨p1, p2, p3, p4⟩ := PT.out
          rw [hE.out] at p3
          refine ⟨p1, ⟨_, HD.out, _, p2, ?_, HG.out.1, HG.out.2.1⟩, ⟨(p4.block _ (by omega)).trans HX.out.1, HX.out.2.1⟩, HX.out.2.2.trans (p4.mono (by omega))⟩
          have : (pls ((a + 1) :: r).reverse).length = r.length + 1 := by rw [pls_len, List.length_reverse, List.length_cons]
          rw [this]
          exact p3
        obtain ⟨m, hm⟩ : ∃ m, r.length = m := ⟨_, rfl⟩
        replace hc : V.cell? ⟨w.heap.size + 1, 0, none⟩ = some (.slice (some ⟨gd, 0, none⟩) (r.length + 1) c') := hc
        rw [hm] at hrc hrf FIN hc hr9
        have hw1 : IntKind.i64.wrap (((m + 1 : Nat) : Int) - 1) = (m : Int) := by rw [IntKind.wrap_i64]; omega
        have hw2 : IntKind.i64.wrap ((a : Int) + 1) = ((a + 1 : Nat) : Int) := by rw [IntKind.wrap_i64]; omega
        have hmI : (1 : Int) ≤ ((m + 1 : Nat) : Int) := by omega
        have hmJ : (m : Int) < ((m + 1 : Nat) : Int) := by omega
        clear HST HNO hdle RET h1 HD hgc hgf erev hl1 HR2 HV2 PT hE hpl HR HV HG hm
        rcases h4 with h4 | h4
        · subst h4
          gi_wp2
          exact FIN.out
        · subst h4
          gi_wp2
          exact FIN.out
    have q4 : (xk == 4) = false := beq_eq_false_iff_ne.2 (by omega)
    have q5 : (xk == 5) = false := beq_eq_false_iff_ne.2 (by omega)
    by_cases h2 : xk = 2 ∨ xk = 3
    · by_cases hd2 : 2 ≤ ds.length
      · obtain ⟨a, b, r, rfl⟩ : ∃ a b r, ds = a :: b :: r := by
          match ds, hd2 with
          | a :: b :: r, _ => exact ⟨a, b, r, rfl⟩
        have HD : Hid _ := HST.out ((1 + max b a) :: r) (by rw [if_neg h1, if_neg h4, if_pos h2])
        have ha9 : a ≤ 100000 := by have := hdle.2 a (List.mem_cons_self ..); omega
        have hb9 : b ≤ 100000 := by have := hdle.2 b (List.mem_cons_of_mem _ (List.mem_cons_self ..)); omega
        have hr9 : r.length ≤ 100000 := by have := hdle.1; rw [List.length_cons, List.length_cons] at this; omega
        obtain ⟨gd, cd, e, hgd1, hgd2, hgd3, hgd4, hgc, hgf, _⟩ := own_at HR.out (by rw [hpl]; omega)
        injection e with e1 _ e3
        subst e1 e3
        have erev : pls (a :: b :: r).reverse = (pls r.reverse ++ [.int .i64 (b : Int)]) ++ [.int .i64 (a : Int)] := by rw [List.reverse_cons, pls_snoc, List.reverse_cons, pls_snoc]
        have hl1 : (pls r.reverse).length = r.length := by rw [pls_len, List.length_reverse]
        have hl2 : (pls r.reverse ++ [Value.int .i64 (b : Int)]).length = r.length + 1 := by rw [List.length_append, hl1]; rfl
        have hra : V.cell? ⟨gd, r.length + 1, none⟩ = some (.int .i64 (a : Int)) := by
          rw [hgc _ (by rw [hpl, List.length_cons, List.length_cons]; omega), erev, List.getElem?_append_right (by omega), hl2, Nat.sub_self]
          rfl
        have hrb : V.cell? ⟨gd, r.length, none⟩ = some (.int .i64 (b : Int)) := by
          rw [hgc _ (by rw [hpl, List.length_cons, List.length_cons]; omega), erev, List.getElem?_append_left (by omega), List.getElem?_append_right (by omega), hl1, Nat.sub_self]
          rfl
        have hrf := hgf r.length
        have HR2 : Hid (V.ownsRow (w.heap.size + 1) 3 1 (.slice (some ⟨gd, 0, none⟩) (r.length + 2) c') (r.length + 2) (pls (a :: b :: r).reverse)) := by
          have := HR.out
          rw [hpl] at this
          exact this
        have HV2 : Hid (Boxed V (w.heap.size + 1) 71 (.slice (some ⟨gd, 0, none⟩) (r.length + 2) c')) := HV.out
        have PT : Hid _ := RB.put (M := M) HV2.out HR2.out (by decide) (HG.out.2.1 gd rfl) r.length (by omega) (.int .i64 ((1 + max b a : Nat) : Int))
        have hE : Hid (((pls (a :: b :: r).reverse).set r.length (.int .i64 ((1 + max b a : Nat) : Int))).take (r.length + 1) = pls ((1 + max b a) :: r).reverse) := by
          show _ = _
          rw [erev, List.reverse_cons, pls_snoc, List.set_append, if_pos (by omega), List.take_append, List.length_set, hl2, Nat.sub_self, List.take_zero, List.append_nil, List.take_of_length_le (by rw [List.length_set, hl2]; exact Nat.le_refl _), List.set_append, if_neg (by omega), hl1, Nat.sub_self]
          rfl
        have FIN : Hid (postM M
            (fun pre M W => (∃ ds, dpl ((qis L).drop (n - pre.length)) = some ds ∧ RB W (w.heap.size + 1) (w.heap.size + 1) 71 3 (pls ds.reverse) M) ∧ (Boxed W w.heap.size 3 (.int .i64 0) ∧ ¬ M w.heap.size) ∧ Below w.heap.size w W)
            (fun c pre M W => (c = .ret ∧ dpl (qis L) = none) ∧ (Boxed W w.heap.size 3 (.int .i64 0) ∧ ¬ M w.heap.size) ∧ Below w.heap.size w W) (pre ++ [i]) V .normal { tmps := #[], defers := [] } ((V.drew.setCell ⟨gd, r.length, none⟩ (.int .i64 ((1 + max b a : Nat) : Int))).setCell ⟨w.heap.size + 1, 0, none⟩ (.slice (some ⟨gd, 0, none⟩) (r.length + 1) c'))) := by
          obtain ⟨p1, p2, p3, p4⟩ := PT.out
          have p3 := own_cut p3 (r.length + 1) (by omega)
          rw [Nat.mul_one, hE.out] at p3
          have hne := row_box p2 p3 rfl (by decide)
          have d1 : Fr M V ((V.drew.setCell ⟨gd, r.length, none⟩ (.int .i64 ((1 + max b a : Nat) : Int))).setCell ⟨w.heap.size + 1, 0, none⟩ (.slice (some ⟨gd, 0, none⟩) (r.length + 1) c')) := ((Fr.refl M V).drew.setCell (p := ⟨gd, r.length, none⟩) (HG.out.2.1 gd rfl) _).setCell (p := ⟨w.heap.size + 1, 0, none⟩) HG.out.1 _
          have d2 : Below (w.heap.size + 1) V ((V.drew.setCell ⟨gd, r.length, none⟩ (.int .i64 ((1 + max b a : Nat) : Int))).setCell ⟨w.heap.size + 1, 0, none⟩ (.slice (some ⟨gd, 0, none⟩) (r.length + 1) c')) := ((Below.refl _ V).drew.setCell (p := ⟨gd, r.length, none⟩) hgd1 _).setCell (p := ⟨w.heap.size + 1, 0, none⟩) (Nat.le_refl _) _
          refine ⟨d1, ⟨_, HD.out, _, Boxed.set (v := .slice (some ⟨gd, 0, none⟩) (r.length + 2) c') _ p2, ?_, HG.out.1, HG.out.2.1⟩, ⟨(d2.block _ (by omega)).trans HX.out.1, HX.out.2.1⟩, HX.out.2.2.trans (d2.mono (by omega))⟩
          have hl : (pls ((1 + max b a) :: r).reverse).length = r.length + 1 := by rw [pls_len, List.length_reverse, List.length_cons]
          rw [hl]
          exact ownsRow_setCell_other p3 (fun e => by simp only [Value.ownBlock] at e; injection e with e; exact hne e) _
        obtain ⟨m, hm⟩ : ∃ m, r.length = m := ⟨_, rfl⟩
        replace hc : V.cell? ⟨w.heap.size + 1, 0, none⟩ = some (.slice (some ⟨gd, 0, none⟩) (r.length + 2) c') := hc
        have hne := row_box HV2.out HR2.out rfl (by decide)
        rw [hm] at hra hrb hrf FIN hc hr9
        have hw1 : IntKind.i64.wrap (((m + 2 : Nat) : Int) - 1) = ((m + 1 : Nat) : Int) := by rw [IntKind.wrap_i64]; omega
        have hw2 : IntKind.i64.wrap (((m + 2 : Nat) : Int) - 2) = (m : Int) := by rw [IntKind.wrap_i64]; omega
        have hw3 : IntKind.i64.wrap (1 + ((max b a : Nat) : Int)) = ((1 + max b a : Nat) : Int) := by rw [IntKind.wrap_i64]; omega
        have hmI : (2 : Int) ≤ ((m + 2 : Nat) : Int) := by omega
        have hc'9 : m + 2 ≤ c' := by rw [hpl, List.length_cons, List.length_cons] at hgd3; omega
        have hS1 : Hid ((V.drew.setCell ⟨gd, m, none⟩ (.int .i64 ((1 + max b a : Nat) : Int))).cell? ⟨w.heap.size + 1, 0, none⟩ = some (.slice (some ⟨gd, 0, none⟩) (m + 2) c') ∧ (V.drew.setCell ⟨gd, m, none⟩ (.int .i64 ((1 + max b a : Nat) : Int))).frozen? ⟨gd, m, none⟩ = false) := ⟨(World.cell?_setCell_other _ _ _ _ (fun e => by injection e with e _ _; exact hne e)).trans hc, by rw [World.frozen?_setCell]; exact hrf⟩
        have hS2 : Hid ((V.drew.setCell ⟨gd, m, none⟩ (.int .i64 ((1 + max b a : Nat) : Int))).cell? ⟨w.heap.size + 1, 0, none⟩ = some (.slice (some ⟨gd, 0, none⟩) (m + 2) c') ∧ (V.drew.setCell ⟨gd, m, none⟩ (.int .i64 ((1 + max b a : Nat) : Int))).frozen? ⟨w.heap.size + 1, 0, none⟩ = false) := ⟨hS1.out.1, by rw [World.frozen?_setCell]; exact hcf⟩
        clear HST HNO hdle RET h1 HD hgc hgf erev hl1 hl2 HR2 HV2 PT hE hpl HR HV HG hm hd2 h4
        rcases h2 with h2 | h2
        · subst h2
          gi_wp2
          -- REGION 11
          refine region_round (S := fun v => v.cell? ⟨w.heap.size + 1, 0, none⟩ = some (.slice (some ⟨gd, 0, none⟩) (m + 2) c') ∧ v.frozen? ⟨gd, m, none⟩ = false) (by kernel_rfl) (by kernel_rfl) (fun ⟨_, _, h⟩ => h) ?_
          have hH : V.drew.cell? ⟨w.heap.size + 1, 0, none⟩ = some (.slice (some ⟨gd, 0, none⟩) (m + 2) c') ∧ V.drew.frozen? ⟨gd, m, none⟩ = false := ⟨hc, hrf⟩
          have hX1 : V.drew.cell? ⟨gd, m, none⟩ = some (.int .i64 (b : Int)) := hrb
          have hX2 : V.drew.cell? ⟨gd, m + 1, none⟩ = some (.int .i64 (a : Int)) := hra
          refine takeH (i := 0) (v := .slice (some ⟨gd, 0, none⟩) (m + 2) c') rfl (by kernel_rfl) (by kernel_rfl) (by kernel_rfl) (fun _ _ _ h => h) rfl ?_ hH ?_
          · rintro v0 ⟨k0, k3⟩
            go_simp
            all_goals first | done | (rw [IntKind.wrap_i64]; omega) | (intro h; exact absurd h (by omega)) | omega
          try simp only [Act.put, List.setIfInBounds_toArray, List.set_cons_zero, List.set_cons_succ]
          refine takeH (i := 1) (v := .int .i64 ((m + 2 : Nat) : Int)) rfl (by kernel_rfl) (by kernel_rfl) (by kernel_rfl) (fun _ _ _ h => h) rfl ?_ hH ?_
          · rintro v0 ⟨k0, k3⟩
            go_simp
            all_goals first | done | (rw [IntKind.wrap_i64]; omega) | (intro h; exact absurd h (by omega)) | omega
          try simp only [Act.put, List.setIfInBounds_toArray, List.set_cons_zero, List.set_cons_succ]
          refine takeH (i := 2) (v := .int .i64 (m : Int)) rfl (by kernel_rfl) (by kernel_rfl) (by kernel_rfl) (fun _ _ _ h => h) rfl ?_ hH ?_
          · rintro v0 ⟨k0, k3⟩
            go_simp
            all_goals first | done | (rw [IntKind.wrap_i64]; omega) | (intro h; exact absurd h (by omega)) | omega
          try simp only [Act.put, List.setIfInBounds_toArray, List.set_cons_zero, List.set_cons_succ]
          refine takeH (i := 3) (v := .slice (some ⟨gd, 0, none⟩) (m + 2) c') rfl (by kernel_rfl) (by kernel_rfl) (by kernel_rfl) (fun _ _ _ h => h) rfl ?_ hH ?_
          · rintro v0 ⟨k0, k3⟩
            go_simp
            all_goals first | done | (rw [IntKind.wrap_i64]; omega) | (intro h; exact absurd h (by omega)) | omega
          try simp only [Act.put, List.setIfInBounds_toArray, List.set_cons_zero, List.set_cons_succ]
          refine takeH (i := 4) (v := .int .i64 ((m + 2 : Nat) : Int)) rfl (by kernel_rfl) (by kernel_rfl) (by kernel_rfl) (fun _ _ _ h => h) rfl ?_ hH ?_
          · rintro v0 ⟨k0, k3⟩
            go_simp
            all_goals first | done | (rw [IntKind.wrap_i64]; omega) | (intro h; exact absurd h (by omega)) | omega
          try simp only [Act.put, List.setIfInBounds_toArray, List.set_cons_zero, List.set_cons_succ]
          refine takeH (i := 5) (v := .int .i64 (m : Int)) rfl (by kernel_rfl) (by kernel_rfl) (by kernel_rfl) (fun _ _ _ h => h) rfl ?_ hH ?_
          · rintro v0 ⟨k0, k3⟩
            go_simp
            all_goals first | done | (rw [IntKind.wrap_i64]; omega) | (intro h; exact absurd h (by omega)) | omega
          try simp only [Act.put, List.setIfInBounds_toArray, List.set_cons_zero, List.set_cons_succ]
          refine takeH (i := 6) (v := .pointer (some ⟨gd, m, none⟩)) rfl (by kernel_rfl) (by kernel_rfl) (by kernel_rfl) (fun _ _ _ h => h) rfl ?_ hH ?_
          · rintro v0 ⟨k0, k3⟩
            go_simp
            all_goals first | done | (rw [IntKind.wrap_i64]; omega) | (intro h; exact absurd h (by omega)) | omega
          try simp only [Act.put, List.setIfInBounds_toArray, List.set_cons_zero, List.set_cons_succ]
          refine takeH (i := 8) (v := .slice (some ⟨gd, 0, none⟩) (m + 2) c') rfl (by kernel_rfl) (by kernel_rfl) (by kernel_rfl) (fun _ _ _ h => h) rfl ?_ hH ?_
          · rintro v0 ⟨k0, k3⟩
            go_simp
            all_goals first | done | (rw [IntKind.wrap_i64]; omega) | (intro h; exact absurd h (by omega)) | omega
          try simp only [Act.put, List.setIfInBounds_toArray, List.set_cons_zero, List.set_cons_succ]
          refine takeH (i := 9) (v := .int .i64 ((m + 2 : Nat) : Int)) rfl (by kernel_rfl) (by kernel_rfl) (by kernel_rfl) (fun _ _ _ h => h) rfl ?_ hH ?_
          · rintro v0 ⟨k0, k3⟩
            go_simp
            all_goals first | done | (rw [IntKind.wrap_i64]; omega) | (intro h; exact absurd h (by omega)) | omega
          try simp only [Act.put, List.setIfInBounds_toArray, List.set_cons_zero, List.set_cons_succ]
          refine takeH (i := 10) (v := .int .i64 ((m + 1 : Nat) : Int)) rfl (by kernel_rfl) (by kernel_rfl) (by kernel_rfl) (fun _ _ _ h => h) rfl ?_ hH ?_
          · rintro v0 ⟨k0, k3⟩
            go_simp
            all_goals first | done | (rw [IntKind.wrap_i64]; omega) | (intro h; exact absurd h (by omega)) | omega
          try simp only [Act.put, List.setIfInBounds_toArray, List.set_cons_zero, List.set_cons_succ]
          refine takeH (i := 11) (v := .pointer (some ⟨gd, m + 1, none⟩)) rfl (by kernel_rfl) (by kernel_rfl) (by kernel_rfl) (fun _ _ _ h => h) rfl ?_ hH ?_
          · rintro v0 ⟨k0, k3⟩
            go_simp
            all_goals first | done | (rw [IntKind.wrap_i64]; omega) | (intro h; exact absurd h (by omega)) | omega
          try simp only [Act.put, List.setIfInBounds_toArray, List.set_cons_zero, List.set_cons_succ]
          refine stepH2 (i := 7) (j := 12) rfl rfl (by kernel_rfl) rfl rfl (fun K1 hK1 => ?_) (fun K1 hK1 => ?_)
          · go_simp
            refine hK1.out _ _ hH ?_
            clear hK1 K1
            try simp only [Act.put, List.setIfInBounds_toArray, List.set_cons_zero, List.set_cons_succ]
            refine stepH (i := 12) rfl (by kernel_rfl) rfl (fun K1 hK1 => ?_)
            go_simp
            refine hK1.out _ _ hH ?_
            clear hK1 K1
            try simp only [Act.put, List.setIfInBounds_toArray, List.set_cons_zero, List.set_cons_succ]
            refine takeH (i := 13) (v := .int .i64 ((max b a : Nat) : Int)) rfl (by kernel_rfl) (by kernel_rfl) (by kernel_rfl) (fun _ _ _ h => h) rfl ?_ hH ?_
            · rintro v0 ⟨k0, k3⟩
              go_simp
              all_goals first | done | (rw [IntKind.wrap_i64]; omega) | (intro h; exact absurd h (by omega)) | omega
            try simp only [Act.put, List.setIfInBounds_toArray, List.set_cons_zero, List.set_cons_succ]
            refine takeH (i := 14) (v := .int .i64 ((1 + max b a : Nat) : Int)) rfl (by kernel_rfl) (by kernel_rfl) (by kernel_rfl) (fun _ _ _ h => h) rfl ?_ hH ?_
            · rintro v0 ⟨k0, k3⟩
              go_simp
              all_goals first | done | (rw [IntKind.wrap_i64]; omega) | (intro h; exact absurd h (by omega)) | omega
            try simp only [Act.put, List.setIfInBounds_toArray, List.set_cons_zero, List.set_cons_succ]
            refine takeH (i := 15) (v := .pointer (some ⟨gd, m, none⟩)) rfl (by kernel_rfl) (by kernel_rfl) (by kernel_rfl) (fun _ _ _ h => h) rfl ?_ hH ?_
            · rintro v0 ⟨k0, k3⟩
              go_simp
              all_goals first | done | (rw [IntKind.wrap_i64]; omega) | (intro h; exact absurd h (by omega)) | omega
            try simp only [Act.put, List.setIfInBounds_toArray, List.set_cons_zero, List.set_cons_succ]
            refine stepH (i := 16) rfl (by kernel_rfl) rfl (fun K1 hK1 => ?_)
            go_simp
            refine hK1.out _ _ ⟨?_, ?_⟩ ?_
            · exact hS1.out.1
            · exact hS1.out.2
            clear hK1 K1
            try simp only [Act.put, List.setIfInBounds_toArray, List.set_cons_zero, List.set_cons_succ]
            refine wpAnyH_done (by kernel_rfl) ?_ _
            clear hH hX1 hX2 hc hrf
            have hc : (V.setCell ⟨gd, m, none⟩ (.int .i64 (1 + ((max b a : Nat) : Int)))).drew.cell? ⟨w.heap.size + 1, 0, none⟩ = some (.slice (some ⟨gd, 0, none⟩) (m + 2) c') := hS2.out.1
            have hcf2 : (V.setCell ⟨gd, m, none⟩ (.int .i64 (1 + ((max b a : Nat) : Int)))).drew.frozen? ⟨w.heap.size + 1, 0, none⟩ = false := hS2.out.2
            gi_wp2
            exact FIN.out
          · go_simp
            refine hK1.out _ _ hH ?_
            clear hK1 K1
            try simp only [Act.put, List.setIfInBounds_toArray, List.set_cons_zero, List.set_cons_succ]
            refine stepH (i := 7) rfl (by kernel_rfl) rfl (fun K1 hK1 => ?_)
            go_simp
            refine hK1.out _ _ hH ?_
            clear hK1 K1
            try simp only [Act.put, List.setIfInBounds_toArray, List.set_cons_zero, List.set_cons_succ]
            refine takeH (i := 13) (v := .int .i64 ((max b a : Nat) : Int)) rfl (by kernel_rfl) (by kernel_rfl) (by kernel_rfl) (fun _ _ _ h => h) rfl ?_ hH ?_
            · rintro v0 ⟨k0, k3⟩
              go_simp
              all_goals first | done | (rw [IntKind.wrap_i64]; omega) | (intro h; exact absurd h (by omega)) | omega
            try simp only [Act.put, List.setIfInBounds_toArray, List.set_cons_zero, List.set_cons_succ]
            refine takeH (i := 14) (v := .int .i64 ((1 + max b a : Nat) : Int)) rfl (by kernel_rfl) (by kernel_rfl) (by kernel_rfl) (fun _ _ _ h => h) rfl ?_ hH ?_
            · rintro v0 ⟨k0, k3⟩
              go_simp
              all_goals first | done | (rw [IntKind.wrap_i64]; omega) | (intro h; exact absurd h (by omega)) | omega
            try simp only [Act.put, List.setIfInBounds_toArray, List.set_cons_zero, List.set_cons_succ]
            refine takeH (i := 15) (v := .pointer (some ⟨gd, m, none⟩)) rfl (by kernel_rfl) (by kernel_rfl) (by kernel_rfl) (fun _ _ _ h => h) rfl ?_ hH ?_
            · rintro v0 ⟨k0, k3⟩
              go_simp
              all_goals first | done | (rw [IntKind.wrap_i64]; omega) | (intro h; exact absurd h (by omega)) | omega
            try simp only [Act.put, List.setIfInBounds_toArray, List.set_cons_zero, List.set_cons_succ]
            refine stepH (i := 16) rfl (by kernel_rfl) rfl (fun K1 hK1 => ?_)
            go_simp
            refine hK1.out _ _ ⟨?_, ?_⟩ ?_
            · exact hS1.out.1
            · exact hS1.out.2
            clear hK1 K1
            try simp only [Act.put, List.setIfInBounds_toArray, List.set_cons_zero, List.set_cons_succ]
            refine wpAnyH_done (by kernel_rfl) ?_ _
            clear hH hX1 hX2 hc hrf
            have hc : (V.setCell ⟨gd, m, none⟩ (.int .i64 (1 + ((max b a : Nat) : Int)))).drew.cell? ⟨w.heap.size + 1, 0, none⟩ = some (.slice (some ⟨gd, 0, none⟩) (m + 2) c') := hS2.out.1
            have hcf2 : (V.setCell ⟨gd, m, none⟩ (.int .i64 (1 + ((max b a : Nat) : Int)))).drew.frozen? ⟨w.heap.size + 1, 0, none⟩ = false := hS2.out.2
            gi_wp2
            exact FIN.out
          -- END
        · subst h2
          gi_wp2
          -- REGION 11
          refine region_round (S := fun v => v.cell? ⟨w.heap.size + 1, 0, none⟩ = some (.slice (some ⟨gd, 0, none⟩) (m + 2) c') ∧ v.frozen? ⟨gd, m, none⟩ = false) (by kernel_rfl) (by kernel_rfl) (fun ⟨_, _, h⟩ => h) ?_
          have hH : V.drew.cell? ⟨w.heap.size + 1, 0, none⟩ = some (.slice (some ⟨gd, 0, none⟩) (m + 2) c') ∧ V.drew.frozen? ⟨gd, m, none⟩ = false := ⟨hc, hrf⟩
          have hX1 : V.drew.cell? ⟨gd, m, none⟩ = some (.int .i64 (b : Int)) := hrb
          have hX2 : V.drew.cell? ⟨gd, m + 1, none⟩ = some (.int .i64 (a : Int)) := hra
          refine takeH (i := 0) (v := .slice (some ⟨gd, 0, none⟩) (m + 2) c') rfl (by kernel_rfl) (by kernel_rfl) (by kernel_rfl) (fun _ _ _ h => h) rfl ?_ hH ?_
          · rintro v0 ⟨k0, k3⟩
            go_simp
            all_goals first | done | (rw [IntKind.wrap_i64]; omega) | (intro h; exact absurd h (by omega)) | omega
          try simp only [Act.put, List.setIfInBounds_toArray, List.set_cons_zero, List.set_cons_succ]
          refine takeH (i := 1) (v := .int .i64 ((m + 2 : Nat) : Int)) rfl (by kernel_rfl) (by kernel_rfl) (by kernel_rfl) (fun _ _ _ h => h) rfl ?_ hH ?_
          · rintro v0 ⟨k0, k3⟩
            go_simp
            all_goals first | done | (rw [IntKind.wrap_i64]; omega) | (intro h; exact absurd h (by omega)) | omega
          try simp only [Act.put, List.setIfInBounds_toArray, List.set_cons_zero, List.set_cons_succ]
          refine takeH (i := 2) (v := .int .i64 (m : Int)) rfl (by kernel_rfl) (by kernel_rfl) (by kernel_rfl) (fun _ _ _ h => h) rfl ?_ hH ?_
          · rintro v0 ⟨k0, k3⟩
            go_simp
            all_goals first | done | (rw [IntKind.wrap_i64]; omega) | (intro h; exact absurd h (by omega)) | omega
          try simp only [Act.put, List.setIfInBounds_toArray, List.set_cons_zero, List.set_cons_succ]
          refine takeH (i := 3) (v := .slice (some ⟨gd, 0, none⟩) (m + 2) c') rfl (by kernel_rfl) (by kernel_rfl) (by kernel_rfl) (fun _ _ _ h => h) rfl ?_ hH ?_
          · rintro v0 ⟨k0, k3⟩
            go_simp
            all_goals first | done | (rw [IntKind.wrap_i64]; omega) | (intro h; exact absurd h (by omega)) | omega
          try simp only [Act.put, List.setIfInBounds_toArray, List.set_cons_zero, List.set_cons_succ]
          refine takeH (i := 4) (v := .int .i64 ((m + 2 : Nat) : Int)) rfl (by kernel_rfl) (by kernel_rfl) (by kernel_rfl) (fun _ _ _ h => h) rfl ?_ hH ?_
          · rintro v0 ⟨k0, k3⟩
            go_simp
            all_goals first | done | (rw [IntKind.wrap_i64]; omega) | (intro h; exact absurd h (by omega)) | omega
          try simp only [Act.put, List.setIfInBounds_toArray, List.set_cons_zero, List.set_cons_succ]
          refine takeH (i := 5) (v := .int .i64 (m : Int)) rfl (by kernel_rfl) (by kernel_rfl) (by kernel_rfl) (fun _ _ _ h => h) rfl ?_ hH ?_
          · rintro v0 ⟨k0, k3⟩
            go_simp
            all_goals first | done | (rw [IntKind.wrap_i64]; omega) | (intro h; exact absurd h (by omega)) | omega
          try simp only [Act.put, List.setIfInBounds_toArray, List.set_cons_zero, List.set_cons_succ]
          refine takeH (i := 6) (v := .pointer (some ⟨gd, m, none⟩)) rfl (by kernel_rfl) (by kernel_rfl) (by kernel_rfl) (fun _ _ _ h => h) rfl ?_ hH ?_
          · rintro v0 ⟨k0, k3⟩
            go_simp
            all_goals first | done | (rw [IntKind.wrap_i64]; omega) | (intro h; exact absurd h (by omega)) | omega
          try simp only [Act.put, List.setIfInBounds_toArray, List.set_cons_zero, List.set_cons_succ]
          refine takeH (i := 8) (v := .slice (some ⟨gd, 0, none⟩) (m + 2) c') rfl (by kernel_rfl) (by kernel_rfl) (by kernel_rfl) (fun _ _ _ h => h) rfl ?_ hH ?_
          · rintro v0 ⟨k0, k3⟩
            go_simp
            all_goals first | done | (rw [IntKind.wrap_i64]; omega) | (intro h; exact absurd h (by omega)) | omega
          try simp only [Act.put, List.setIfInBounds_toArray, List.set_cons_zero, List.set_cons_succ]
          refine takeH (i := 9) (v := .int .i64 ((m + 2 : Nat) : Int)) rfl (by kernel_rfl) (by kernel_rfl) (by kernel_rfl) (fun _ _ _ h => h) rfl ?_ hH ?_
          · rintro v0 ⟨k0, k3⟩
            go_simp
            all_goals first | done | (rw [IntKind.wrap_i64]; omega) | (intro h; exact absurd h (by omega)) | omega
          try simp only [Act.put, List.setIfInBounds_toArray, List.set_cons_zero, List.set_cons_succ]
          refine takeH (i := 10) (v := .int .i64 ((m + 1 : Nat) : Int)) rfl (by kernel_rfl) (by kernel_rfl) (by kernel_rfl) (fun _ _ _ h => h) rfl ?_ hH ?_
          · rintro v0 ⟨k0, k3⟩
            go_simp
            all_goals first | done | (rw [IntKind.wrap_i64]; omega) | (intro h; exact absurd h (by omega)) | omega
          try simp only [Act.put, List.setIfInBounds_toArray, List.set_cons_zero, List.set_cons_succ]
          refine takeH (i := 11) (v := .pointer (some ⟨gd, m + 1, none⟩)) rfl (by kernel_rfl) (by kernel_rfl) (by kernel_rfl) (fun _ _ _ h => h) rfl ?_ hH ?_
          · rintro v0 ⟨k0, k3⟩
            go_simp
            all_goals first | done | (rw [IntKind.wrap_i64]; omega) | (intro h; exact absurd h (by omega)) | omega
          try simp only [Act.put, List.setIfInBounds_toArray, List.set_cons_zero, List.set_cons_succ]
          refine stepH2 (i := 7) (j := 12) rfl rfl (by kernel_rfl) rfl rfl (fun K1 hK1 => ?_) (fun K1 hK1 => ?_)
          · go_simp
            refine hK1.out _ _ hH ?_
            clear hK1 K1
            try simp only [Act.put, List.setIfInBounds_toArray, List.set_cons_zero, List.set_cons_succ]
            refine stepH (i := 12) rfl (by kernel_rfl) rfl (fun K1 hK1 => ?_)
            go_simp
            refine hK1.out _ _ hH ?_
            clear hK1 K1
            try simp only [Act.put, List.setIfInBounds_toArray, List.set_cons_zero, List.set_cons_succ]
            refine takeH (i := 13) (v := .int .i64 ((max b a : Nat) : Int)) rfl (by kernel_rfl) (by kernel_rfl) (by kernel_rfl) (fun _ _ _ h => h) rfl ?_ hH ?_
            · rintro v0 ⟨k0, k3⟩
              go_simp
              all_goals first | done | (rw [IntKind.wrap_i64]; omega) | (intro h; exact absurd h (by omega)) | omega
            try simp only [Act.put, List.setIfInBounds_toArray, List.set_cons_zero, List.set_cons_succ]
            refine takeH (i := 14) (v := .int .i64 ((1 + max b a : Nat) : Int)) rfl (by kernel_rfl) (by kernel_rfl) (by kernel_rfl) (fun _ _ _ h => h) rfl ?_ hH ?_
            · rintro v0 ⟨k0, k3⟩
              go_simp
              all_goals first | done | (rw [IntKind.wrap_i64]; omega) | (intro h; exact absurd h (by omega)) | omega
            try simp only [Act.put, List.setIfInBounds_toArray, List.set_cons_zero, List.set_cons_succ]
            refine takeH (i := 15) (v := .pointer (some ⟨gd, m, none⟩)) rfl (by kernel_rfl) (by kernel_rfl) (by kernel_rfl) (fun _ _ _ h => h) rfl ?_ hH ?_
            · rintro v0 ⟨k0, k3⟩
              go_simp
              all_goals first | done | (rw [IntKind.wrap_i64]; omega) | (intro h; exact absurd h (by omega)) | omega
            try simp only [Act.put, List.setIfInBounds_toArray, List.set_cons_zero, List.set_cons_succ]
            refine stepH (i := 16) rfl (by kernel_rfl) rfl (fun K1 hK1 => ?_)
            go_simp
            refine hK1.out _ _ ⟨?_, ?_⟩ ?_
            · exact hS1.out.1
            · exact hS1.out.2
            clear hK1 K1
            try simp only [Act.put, List.setIfInBounds_toArray, List.set_cons_zero, List.set_cons_succ]
            refine wpAnyH_done (by kernel_rfl) ?_ _
            clear hH hX1 hX2 hc hrf
            have hc : (V.setCell ⟨gd, m, none⟩ (.int .i64 (1 + ((max b a : Nat) : Int)))).drew.cell? ⟨w.heap.size + 1, 0, none⟩ = some (.slice (some ⟨gd, 0, none⟩) (m + 2) c') := hS2.out.1
            have hcf2 : (V.setCell ⟨gd, m, none⟩ (.int .i64 (1 + ((max b a : Nat) : Int)))).drew.frozen? ⟨w.heap.size + 1, 0, none⟩ = false := hS2.out.2
            gi_wp2
            exact FIN.out
          · go_simp
            refine hK1.out _ _ hH ?_
            clear hK1 K1
            try simp only [Act.put, List.setIfInBounds_toArray, List.set_cons_zero, List.set_cons_succ]
            refine stepH (i := 7) rfl (by kernel_rfl) rfl (fun K1 hK1 => ?_)
            go_simp
            refine hK1.out _ _ hH ?_
            clear hK1 K1
            try simp only [Act.put, List.setIfInBounds_toArray, List.set_cons_zero, List.set_cons_succ]
            refine takeH (i := 13) (v := .int .i64 ((max b a : Nat) : Int)) rfl (by kernel_rfl) (by kernel_rfl) (by kernel_rfl) (fun _ _ _ h => h) rfl ?_ hH ?_
            · rintro v0 ⟨k0, k3⟩
              go_simp
              all_goals first | done | (rw [IntKind.wrap_i64]; omega) | (intro h; exact absurd h (by omega)) | omega
            try simp only [Act.put, List.setIfInBounds_toArray, List.set_cons_zero, List.set_cons_succ]
            refine takeH (i := 14) (v := .int .i64 ((1 + max b a : Nat) : Int)) rfl (by kernel_rfl) (by kernel_rfl) (by kernel_rfl) (fun _ _ _ h => h) rfl ?_ hH ?_
            · rintro v0 ⟨k0, k3⟩
              go_simp
              all_goals first | done | (rw [IntKind.wrap_i64]; omega) | (intro h; exact absurd h (by omega)) | omega
            try simp only [Act.put, List.setIfInBounds_toArray, List.set_cons_zero, List.set_cons_succ]
            refine takeH (i := 15) (v := .pointer (some ⟨gd, m, none⟩)) rfl (by kernel_rfl) (by kernel_rfl) (by kernel_rfl) (fun _ _ _ h => h) rfl ?_ hH ?_
            · rintro v0 ⟨k0, k3⟩
              go_simp
              all_goals first | done | (rw [IntKind.wrap_i64]; omega) | (intro h; exact absurd h (by omega)) | omega
            try simp only [Act.put, List.setIfInBounds_toArray, List.set_cons_zero, List.set_cons_succ]
            refine stepH (i := 16) rfl (by kernel_rfl) rfl (fun K1 hK1 => ?_)
            go_simp
            refine hK1.out _ _ ⟨?_, ?_⟩ ?_
            · exact hS1.out.1
            · exact hS1.out.2
            clear hK1 K1
            try simp only [Act.put, List.setIfInBounds_toArray, List.set_cons_zero, List.set_cons_succ]
            refine wpAnyH_done (by kernel_rfl) ?_ _
            clear hH hX1 hX2 hc hrf
            have hc : (V.setCell ⟨gd, m, none⟩ (.int .i64 (1 + ((max b a : Nat) : Int)))).drew.cell? ⟨w.heap.size + 1, 0, none⟩ = some (.slice (some ⟨gd, 0, none⟩) (m + 2) c') := hS2.out.1
            have hcf2 : (V.setCell ⟨gd, m, none⟩ (.int .i64 (1 + ((max b a : Nat) : Int)))).drew.frozen? ⟨w.heap.size + 1, 0, none⟩ = false := hS2.out.2
            gi_wp2
            exact FIN.out
          -- END
      · have HN2 : Hid _ := RET.out (HNO.out (by
          simp only
          rw [if_neg h1, if_neg h4, if_pos h2]
          match ds, hd2 with
          | [], _ => rfl
          | [_], _ => rfl
          | _ :: _ :: _, h => simp at h))
        have hdI : ¬ (2 : Int) ≤ (ds.length : Int) := by omega
        generalize ds.length = m at *
        rcases h2 with h2 | h2
        · subst h2
          clear HST HNO hdle RET h1 h4
          gi_wp2
          exact ⟨HN2.out.1, ⟨rfl, HN2.out.2.1.2⟩, HN2.out.2.2⟩
        · subst h2
          clear HST HNO hdle RET h1 h4
          gi_wp2
          exact ⟨HN2.out.1, ⟨rfl, HN2.out.2.1.2⟩, HN2.out.2.2⟩
    · have q2 : (xk == 2) = false := beq_eq_false_iff_ne.2 (by omega)
      have q3 : (xk == 3) = false := beq_eq_false_iff_ne.2 (by omega)
      have HN2 : Hid _ := RET.out (HNO.out (by
        simp only
        rw [if_neg h1, if_neg h4, if_neg h2]))
      generalize ds.length = m at *
      clear HST HNO hdle RET h1 h4 h2
      gi_wp2
      exact ⟨HN2.out.1, ⟨rfl, HN2.out.2.1.2⟩, HN2.out.2.2⟩

end Cls

end Go.Proofs.YtbnnobeahliffaaGreatDoor

set_option linter.unusedVariables false
namespace Go.Proofs.YtbnnobeahliffaaGreatDoor
open Go.RowKit
namespace Cls

theorem r5_new (w : World) (u0 u1 : Value) (X : TypeId) : R5 (w.alloc (.cells #[u0, u1, .func (.func 36) #[.pointer (some ⟨w.heap.size, 0, none⟩)] #[], .func (.func 37) #[.pointer (some ⟨w.heap.size, 0, none⟩)] #[], .func (.func 38) #[.pointer (some ⟨w.heap.size, 0, none⟩)] #[]] X)) w.heap.size u0 u1 := by
  have hb : (w.alloc (.cells #[u0, u1, .func (.func 36) #[.pointer (some ⟨w.heap.size, 0, none⟩)] #[], .func (.func 37) #[.pointer (some ⟨w.heap.size, 0, none⟩)] #[], .func (.func 38) #[.pointer (some ⟨w.heap.size, 0, none⟩)] #[]] X)).heap[w.heap.size]? = some (.cells #[u0, u1, .func (.func 36) #[.pointer (some ⟨w.heap.size, 0, none⟩)] #[], .func (.func 37) #[.pointer (some ⟨w.heap.size, 0, none⟩)] #[], .func (.func 38) #[.pointer (some ⟨w.heap.size, 0, none⟩)] #[]] X) := World.alloc_heap_new w _
  refine ⟨?_, ?_, ?_, ?_, ?_, fun t => World.frozen?_alloc_at _ _ _ _ rfl, by rw [al_size]; omega⟩
  all_goals
    unfold World.cell?
    rw [hb]
    rfl

set_option maxRecDepth 100000 in
set_option maxHeartbeats 1000000 in
theorem reader_any (w0 : World) (so : Option Addr) (n cap : Nat) (Y : List Tk) (hn : Y.length = n) (hc : n ≤ cap) (hm : cap ≤ 9223372036854775807) (h9 : n ≤ 100000) (hY : Ty w0 so Y) :
    Calls Tryz.prog 19 #[.slice so n cap] w0 fun e w' => e = .returned (.pointer (some ⟨w0.heap.size, 0, none⟩)) ∧ St w0 w' Y [] := by
  have HY : Hid (Ty w0 so Y) := hY
  have HN : Hid (Y.length = n) := hn
  have HCP : Hid (n ≤ cap ∧ cap ≤ 9223372036854775807 ∧ n ≤ 100000) := ⟨hc, hm, h9⟩
  clear hY hn hc hm h9
  go_enter Tryz.func19, Tryz.ntmps19
  go_wp2_with fail
  go_ret
  refine ⟨rfl, ⟨.slice none 0 0, [], ⟨al_below _ _, so, cap, ?_, ?_, HCP.out.2.1, HY.out⟩, ⟨World.ownsRow_nil _ _ _ _, fun x hx => by cases hx⟩, rfl⟩, ?_⟩
  · rw [HN.out]
    exact r5_new w0 _ _ _
  · rw [HN.out]; exact HCP.out.1
  · rw [HN.out]; have := HCP.out.2.2; show 0 + n ≤ _; omega

/-- A row of tokens of one's own has room. -/
theorem OT.room {w : World} {B : Nat} {T : TypeId} {v : Value} {L : List Tv} (h : OT w B T v L) (hs : L.length ≤ 4398046511104) : ∃ so c, v = .slice so L.length c ∧ TR w so L ∧ L.length ≤ c ∧ c ≤ 9223372036854775807 := by
  obtain ⟨so, c, rfl, htr⟩ := h.tr hs
  refine ⟨so, c, rfl, htr, ?_⟩
  obtain ⟨_, ⟨e, e2⟩ | ⟨g, cap, cur, e, _, _, h1, h2, _⟩⟩ := h.own
  · injection e with _ _ e3
    omega
  · injection e with _ _ e3
    subst e3
    unfold maxLen at h2
    omega

/-- A reader's nodes are a row of one's own. -/
theorem Stn.oq {w0 w : World} {v : Value} {L : List Qv} {B : Nat} (h : Stn w0 w v L) (hb : Below w0.heap.size w0 w) (hB : B ≤ w0.heap.size) : OQ w B 36 v L := by
  refine oq_mono (B := w0.heap.size + 1) ⟨h.own, fun x hx => (h.ok x hx).grow hb, fun x hx hn b o e hh => ?_⟩ (by omega)
  have h1 := own_low h.own b hh.symm
  obtain ⟨b', o', e', hlt, _⟩ := (h.ok x hx).lies hn
  rw [e] at e'
  cases e'
  omega

set_option maxRecDepth 100000 in
set_option maxHeartbeats 1000000 in
theorem qparse_any (s : ByteArray) (hs : s.size ≤ 1000000) (w : World) :
    Calls Tryz.prog 6 #[.string s] w fun e w' => Prs s w' w.heap.size e ∧ Below w.heap.size w w' := by
  unfold Prs
  have CL : Hid _ := lex_any s hs w
  by_cases hc : lcd s = 0
  · obtain ⟨h1000, _, hprt⟩ := lex_told hc
    have hcI : (((lcd s : Nat) : Int) != 0) = false := by rw [hc]; rfl
    have HPR : Hid _ := hprt
    have hqp : qpar s = match qry (itq (lls s).length) (lls s) with
      | .error r => ([], plq s r, 140)
      | .ok (X, t :: r) => ([], plq s (t :: r), 140)
      | .ok (X, []) => if 64 < X.flat.length then ([], 0, 142) else if 16 < X.dep then ([], 0, 141) else (X.flat, s.size, 0) := by
      unfold qpar
      rw [if_neg (by omega)]
      cases qry (itq (lls s).length) (lls s) with
      | error r => rfl
      | ok y =>
        obtain ⟨X, r⟩ := y
        cases r <;> rfl
    obtain ⟨Q, hQ⟩ : ∃ Q, qpar s = Q := ⟨_, rfl⟩
    rw [hQ] at hqp ⊢
    have HQP : Hid _ := hqp
    have hfew := lls_few s
    have HRG : Hid (∀ X, qry (itq (lls s).length) (lls s) = .ok (X, []) → X.rg) := fun X e => qry_rg (itq_suf _) (fun L X r => itq_rg hprt _ L X r) _ X [] (List.suffix_refl _) e
    obtain ⟨n, hn⟩ : ∃ n, (lls s).length = n := ⟨_, rfl⟩
    rw [hn] at HRG HQP hfew
    have HN : Hid ((lls s).length = n) := hn
    generalize lls s = Y at *
    generalize lpl s = lp at *
    generalize lcd s = lc at *
    clear hqp hQ hprt hc hn
    go_enter Tryz.func6, Tryz.ntmps6
    go_wp2_with fail
    refine Calls.mono CL.out ?_; rintro e w1 ⟨⟨v1, L, rfl, ho, hl⟩, b1⟩
    have hLn : L.length = n := by have := congrArg List.length hl; have h2 := HN.out; simp only [List.length_map] at this; omega
    obtain ⟨so, sc, rfl, htr, hsc1, hsc2⟩ := ho.room (by omega)
    rw [hLn] at hsc1 ⊢
    have HTY : Hid (Ty w1 so Y) := ⟨L, htr, hl⟩
    have B1 : Hid (Below w.heap.size w w1) := b1
    have CR : Hid _ := reader_any w1 so n sc Y HN.out hsc1 hsc2 (by omega) HTY.out
    clear b1 ho hl htr hLn CL hsc1 hsc2
    go_wp2_with fail
    refine Calls.mono CR.out ?_; rintro e w2 ⟨rfl, hst⟩
    have CQ : Hid _ := rquery_any w1 n (itf_all w1 n) w2 Y [] (Nat.le_of_eq HN.out) hst
    obtain ⟨⟨v2, L2, hs2, _⟩, _⟩ := hst
    obtain ⟨_, _, r2, _⟩ := hs2.box
    have c2 := r2.c2
    clear r2 hs2 CR
    obtain ⟨m, hm⟩ : ∃ m, s.size = m := ⟨_, rfl⟩
    have HM : Hid (s.size = m) := hm
    have hm9 : m ≤ 1000000 := by omega
    rw [hm] at HQP hfew h1000
    clear hs hm
    generalize qry (itq n) Y = qr at *
    rcases qr with r | ⟨X, r⟩
    · have HE : Hid (Q = ([], plq s r, 140)) := HQP.out
      clear HQP
      go_wp2_with fail
      refine Calls.mono CQ.out ?_; rintro e w3 ⟨rfl, v3, hs3⟩
      have S3 : Hid _ := hs3
      have CP : Hid _ := place_any w1 w3 s m HM.out r v3 hs3
      clear hs3 CQ c2
      go_wp2_with (first | rw [HM.out])
      refine Calls.mono CP.out ?_; rintro e w4 ⟨rfl, b4⟩
      have B4 : Hid (Below w.heap.size w w4) := (B1.out.trans (S3.out.bel.mono B1.out.size)).trans (b4.mono (Nat.le_trans B1.out.size S3.out.bel.size))
      clear b4 CP
      go_wp2_with fail
      try simp only [Exit.noGoto]
      refine bodyPost_ret (results_tmp3 rfl _ _ _) rfl ?_
      refine ⟨⟨none, 0, 0, ?_, [], rfl, oq_nil _ _ _, ?_⟩, B4.out⟩
      · rw [HE.out]; rfl
      · rw [HE.out]; rfl
    · cases r with
      | cons t r =>
        have HE : Hid (Q = ([], plq s (t :: r), 140)) := HQP.out
        clear HQP
        go_wp2_with fail
        refine Calls.mono CQ.out ?_; rintro e w3 ⟨rfl, hst3⟩
        obtain ⟨⟨v3, L3, hs3, _⟩, _⟩ := hst3
        have S3 : Hid _ := hs3
        have CP : Hid _ := place_any w1 w3 s m HM.out (t :: r) v3 hs3
        obtain ⟨so3, cap3, r3, _, _, hty⟩ := hs3.box
        have d0 := r3.c0
        have hl3 := hty.small
        rw [List.length_cons] at d0 hl3
        obtain ⟨k, hk⟩ : ∃ k, r.length = k := ⟨_, rfl⟩
        rw [hk] at d0 hl3
        have hkI : (0 : Int) < (k : Int) + 1 := by omega
        clear hs3 CQ c2 r3 hty hk
        go_wp2_with (first | rw [HM.out])
        refine Calls.mono CP.out ?_; rintro e w4 ⟨rfl, b4⟩
        have B4 : Hid (Below w.heap.size w w4) := (B1.out.trans (S3.out.bel.mono B1.out.size)).trans (b4.mono (Nat.le_trans B1.out.size S3.out.bel.size))
        clear b4 CP
        go_wp2_with fail
        try simp only [Exit.noGoto]
        refine bodyPost_ret (results_tmp3 rfl _ _ _) rfl ?_
        refine ⟨⟨none, 0, 0, ?_, [], rfl, oq_nil _ _ _, ?_⟩, B4.out⟩
        · rw [HE.out]; rfl
        · rw [HE.out]; rfl
      | nil =>
        have HE : Hid (Q = if 64 < X.flat.length then ([], 0, 142) else if 16 < X.dep then ([], 0, 141) else (X.flat, m, 0)) := HQP.out
        have HX : Hid X.rg := HRG.out X rfl
        clear HQP HRG
        go_wp2_with fail
        refine Calls.mono CQ.out ?_; rintro e w3 ⟨rfl, hst3⟩
        obtain ⟨⟨v3, L3, hs3, hn3, hq3⟩, hc3⟩ := hst3
        have S3 : Hid _ := hs3
        have B3 : Hid (Below w.heap.size w w3) := B1.out.trans (hs3.bel.mono B1.out.size)
        have OQ3 : Hid _ := hn3.oq (B := w.heap.size) hs3.bel B1.out.size
        have HQ3 : Hid (qis L3 = X.flat) := hq3
        have hlx : L3.length = X.flat.length := by have := congrArg List.length hq3; rw [qis_len, List.nil_append] at this; exact this
        have hx9 : X.flat.length ≤ 100000 := by have := hc3; simp only [List.length_append, List.length_nil] at this; omega
        obtain ⟨vo, vc, rfl⟩ := OQ3.out.form
        have CD : Hid _ := qdepth_any L3.length vc vo L3 rfl (by omega) w3 (OQ3.out.qr rfl (by omega))
        rw [hq3, show [] ++ X.flat = X.flat from rfl, qdep_flat X HX.out.1] at CD
        obtain ⟨so3, cap3, r3, _, _, hty⟩ := hs3.box
        have d0 := r3.c0
        have d1 := r3.c1
        rw [List.length_nil] at d0
        rw [hlx] at d1 CD OQ3
        have HLX : Hid (L3.length = X.flat.length) := hlx
        generalize X.flat.length = k at *
        generalize X.dep = dp at *
        clear hs3 CQ c2 r3 hty hn3 hq3 hc3 hlx
        by_cases h64 : 64 < k
        · have hI : (64 : Int) < (k : Int) := by omega
          have HE2 : Hid (Q = ([], 0, 142)) := by show _ = _; rw [HE.out, if_pos h64]
          clear HE CD
          go_wp2_with fail
          try simp only [Exit.noGoto]
          refine bodyPost_ret (results_tmp3 rfl _ _ _) rfl ?_
          refine ⟨⟨none, 0, 0, ?_, [], rfl, oq_nil _ _ _, ?_⟩, B3.out⟩
          · rw [HE2.out]; rfl
          · rw [HE2.out]; rfl
        · have hI : ¬ (64 : Int) < (k : Int) := by omega
          by_cases h16 : 16 < dp
          · have hJ : (16 : Int) < (dp : Int) := by omega
            have HE2 : Hid (Q = ([], 0, 141)) := by show _ = _; rw [HE.out, if_neg h64, if_pos h16]
            clear HE
            go_wp2_with fail
            refine Calls.mono CD.out ?_; rintro e w4 ⟨rfl, b4⟩
            have B4 : Hid (Below w.heap.size w w4) := bgrow' B3.out b4
            clear b4 CD
            go_wp2_with fail
            try simp only [Exit.noGoto]
            refine bodyPost_ret (results_tmp3 rfl _ _ _) rfl ?_
            refine ⟨⟨none, 0, 0, ?_, [], rfl, oq_nil _ _ _, ?_⟩, B4.out⟩
            · rw [HE2.out]; rfl
            · rw [HE2.out]; rfl
          · have hJ : ¬ (16 : Int) < (dp : Int) := by omega
            have HE2 : Hid (Q = (X.flat, m, 0)) := by show _ = _; rw [HE.out, if_neg h64, if_neg h16]
            clear HE
            go_wp2_with fail
            refine Calls.mono CD.out ?_; rintro e w4 ⟨rfl, b4⟩
            have B4 : Hid (Below w.heap.size w w4) := bgrow' B3.out b4
            have S4 : Hid _ := S3.out.grow b4
            have OQ4 : Hid _ := OQ3.out.grow b4
            obtain ⟨so4, cap4, r4, _, _, _⟩ := S4.out.box
            have e1 := r4.c1
            rw [HLX.out] at e1
            clear b4 CD r4
            go_wp2_with (first | rw [HM.out])
            try simp only [Exit.noGoto]
            refine bodyPost_ret (results_tmp3 rfl _ _ _) rfl ?_
            refine ⟨⟨vo, k, vc, ?_, L3, HLX.out, OQ4.out, ?_⟩, B4.out⟩
            · rw [HE2.out]; rfl
            · rw [HE2.out]; exact HQ3.out
  · have hcI : (((lcd s : Nat) : Int) != 0) = true := by simpa using (show ((lcd s : Nat) : Int) ≠ 0 by omega)
    have HQ : Hid (qpar s = ([], lpl s, lcd s)) := by show _ = _; unfold qpar; rw [if_pos hc]
    generalize qpar s = Q at *
    generalize lpl s = lp at *
    generalize lcd s = lc at *
    clear hc
    go_enter Tryz.func6, Tryz.ntmps6
    go_wp2_with fail
    refine Calls.mono CL.out ?_; rintro e w1 ⟨⟨v1, L, rfl, ho, hl⟩, b1⟩
    have B1 : Hid (Below w.heap.size w w1) := b1
    clear b1 ho hl CL
    go_wp2_with fail
    try simp only [Exit.noGoto]
    refine bodyPost_ret (results_tmp3 rfl _ _ _) rfl ?_
    refine ⟨⟨none, 0, 0, ?_, [], rfl, oq_nil _ _ _, ?_⟩, B1.out⟩
    · rw [HQ.out]; rfl
    · rw [HQ.out]; rfl

end Cls

end Go.Proofs.YtbnnobeahliffaaGreatDoor

set_option linter.unusedVariables false
namespace Go.Proofs.YtbnnobeahliffaaGreatDoor
open Go.RowKit
namespace Cls

/-- A writer's box, made in the world w0: the nodes that it has still to write. -/
structure Ws (w0 w : World) (L : List Qv) : Prop where
  bel : Below w0.heap.size w0 w
  fz : w.frozen? ⟨w0.heap.size, 0, none⟩ = false
  row : ∃ so cap, w.cell? ⟨w0.heap.size, 0, none⟩ = some (.slice so L.length cap) ∧ L.length ≤ cap ∧ cap ≤ 9223372036854775807 ∧ QR w0 so L

theorem Ws.lt {w0 w : World} {L : List Qv} (h : Ws w0 w L) : w0.heap.size < w.heap.size := by
  obtain ⟨so, cap, hc, _⟩ := h.row
  exact World.block_lt_of_cell? w _ hc

theorem Ws.grow {w0 w w' : World} {L : List Qv} (h : Ws w0 w L) (b : Below w.heap.size w w') : Ws w0 w' L := by
  have hl := h.lt
  obtain ⟨so, cap, hc, h1⟩ := h.row
  exact ⟨h.bel.trans (b.mono h.bel.size), ((b.frozen (p := ⟨w0.heap.size, 0, none⟩) hl)).trans h.fz, so, cap, (b.cell (p := ⟨w0.heap.size, 0, none⟩) hl).trans hc, h1⟩

theorem Ws.head {w0 w : World} {L : List Qv} {x : Qn} {M : List Qn} (h : Ws w0 w L) (hL : qis L = x :: M) : ∃ (y : Qv) (L' : List Qv) (b o cap : Nat), y.i = x ∧ qis L' = M ∧ L'.length + 1 ≤ 4398046511104 ∧ w.cell? ⟨w0.heap.size, 0, none⟩ = some (.slice (some ⟨b, o, none⟩) (L'.length + 1) cap) ∧ L'.length + 1 ≤ cap ∧ cap ≤ 9223372036854775807 ∧
    w.cell? ⟨b, o, none⟩ = some (.int .i64 x.kind) ∧ w.cell? ⟨b, o + 1, none⟩ = some (.int .i64 x.n) ∧ w.cell? ⟨b, o + 2, none⟩ = some (.slice y.ao x.p.length y.cap) ∧ w.cell? ⟨b, o + 3, none⟩ = some (.int .i64 x.k) ∧ Lf w0 y.ao x.p.length (at' x.p) ∧
    ∀ (w' : World) (so' : Option Addr) (c' : Nat), Below w0.heap.size w0 w' → w'.frozen? ⟨w0.heap.size, 0, none⟩ = false → w'.cell? ⟨w0.heap.size, 0, none⟩ = some (.slice so' L'.length c') → (1 ≤ L'.length → so' = some ⟨b, o + 4, none⟩) → L'.length ≤ c' → c' ≤ 9223372036854775807 → Ws w0 w' L' := by
  obtain ⟨so, cap, hc, hn, hm, hq⟩ := h.row
  cases L with
  | nil => cases hL
  | cons y L' =>
    unfold qis at hL
    rw [List.map_cons] at hL
    injection hL with e1 e2
    subst e1
    have hsm := hq.small
    rw [List.length_cons] at hn hc hsm
    obtain ⟨b, o, rfl, hb, hC⟩ := hq.lies (by rw [List.length_cons]; omega)
    obtain ⟨c0, c1, c2, c3⟩ := hC 0 (by rw [List.length_cons]; omega)
    have hok := hq.ok y (List.mem_cons_self ..)
    have C := fun (t : Nat) => h.bel.cell (p := ⟨b, t, none⟩) hb
    rw [Nat.zero_mul, Nat.add_zero] at c0 c1 c2 c3
    refine ⟨y, L', b, o, cap, rfl, e2, hsm, hc, hn, hm, (C _).trans c0, (C _).trans c1, (C _).trans c2, (C _).trans c3, hok, fun w' so' c' hb' hf hc' hso hn' hm' => ⟨hb', hf, so', c', hc', hn', hm', ⟨by omega, fun h1 => ⟨b, o + 4, hso h1, hb, fun t ht => ?_⟩, fun x hx => hq.ok x (List.mem_cons_of_mem _ hx)⟩⟩⟩
    have := hC (t + 1) (by rw [List.length_cons]; omega)
    rw [List.getElem_cons_succ, show o + (t + 1) * 4 = o + 4 + t * 4 by omega] at this
    exact this

/-- What holds while a tree is written: the writer's box, the node's own box, the brackets asked for. -/
structure Tw (w0 w v : World) (L : List Qv) (bo : Option Addr) (T : List Int) (v0 v1 v2 v3 : Value) : Prop where
  ws : Ws w0 v L
  fr : Fr (fun k => k ≠ w0.heap.size) w v
  q : K4 v w.heap.size v0 v1 v2 v3
  ir : Irw v bo T
  ap : ∀ b o, bo = some ⟨b, o, none⟩ → 1 ≤ T.length → b ≠ w0.heap.size
  lt : w0.heap.size < w.heap.size

theorem Tw.grow {w0 w v v' : World} {L : List Qv} {bo : Option Addr} {T : List Int} {v0 v1 v2 v3 : Value} (h : Tw w0 w v L bo T v0 v1 v2 v3) (b : Below v.heap.size v v') : Tw w0 w v' L bo T v0 v1 v2 v3 :=
  ⟨h.ws.grow b, h.fr.trans (Fr.of_below b (fun k hk _ => hk)), h.q.keep b, h.ir.grow b, h.ap, h.lt⟩

theorem Tw.step {w0 w v v' : World} {L L' : List Qv} {bo : Option Addr} {T : List Int} {v0 v1 v2 v3 : Value} (h : Tw w0 w v L bo T v0 v1 v2 v3) (f : Fr (fun k => k ≠ w0.heap.size) v v') (hs : Ws w0 v' L') : Tw w0 w v' L' bo T v0 v1 v2 v3 := by
  have hi : w.heap.size < v.heap.size := World.block_lt_of_cell? v _ h.q.c0
  have hne : w.heap.size ≠ w0.heap.size := by have := h.lt; omega
  have C := fun (t : Nat) => f.cell (p := ⟨w.heap.size, t, none⟩) hne hi
  exact ⟨hs, h.fr.trans f, ⟨(C 0).trans h.q.c0, (C 1).trans h.q.c1, (C 2).trans h.q.c2, (C 3).trans h.q.c3⟩, h.ir.kept f h.ap, h.ap, h.lt⟩

theorem Tw.tabs {w0 w v : World} {L : List Qv} {bo : Option Addr} {T : List Int} {v0 v1 v2 v3 : Value} (h : Tw w0 w v L bo T v0 v1 v2 v3) (hB : TabB w0) (hX : TabX w0) : TabB v ∧ TabX v := ⟨hB.grow h.ws.bel, hX.grow h.ws.bel⟩

theorem sc_size (w : World) (p : Addr) (u : Value) : (w.setCell p u).heap.size = w.heap.size := by simp [World.setCell]

theorem tw_start {w0 w w2 : World} {L L' : List Qv} {bo : Option Addr} {T : List Int} {v0 v1 v2 v3 u : Value} {X : TypeId} (hs : Ws w0 w L) (hI : Irw w bo T) (ha : ∀ b o, bo = some ⟨b, o, none⟩ → 1 ≤ T.length → b ≠ w0.heap.size) (e2 : w2 = (w.setCell ⟨w0.heap.size, 0, none⟩ u).alloc (.cells #[v0, v1, v2, v3] X))
    (hw : ∀ w' : World, Below w0.heap.size w0 w' → w'.frozen? ⟨w0.heap.size, 0, none⟩ = false → w'.cell? ⟨w0.heap.size, 0, none⟩ = some u → Ws w0 w' L') : Tw w0 w w2 L' bo T v0 v1 v2 v3 := by
  have hl := hs.lt
  obtain ⟨so, cap, hc, _⟩ := hs.row
  have hz := sc_size w ⟨w0.heap.size, 0, none⟩ u
  have f1 : Fr (fun k => k ≠ w0.heap.size) w (w.setCell ⟨w0.heap.size, 0, none⟩ u) := (Fr.refl _ _).setCell (by simp) _
  have f2 : Fr (fun k => k ≠ w0.heap.size) w w2 := by rw [e2]; exact f1.alloc _
  have q1 := k4_new (w.setCell ⟨w0.heap.size, 0, none⟩ u) v0 v1 v2 v3 X
  rw [hz, ← e2] at q1
  have ba : Below (w.setCell ⟨w0.heap.size, 0, none⟩ u).heap.size (w.setCell ⟨w0.heap.size, 0, none⟩ u) w2 := by rw [e2]; exact al_below _ _
  have hb2 : Below w0.heap.size w0 w2 := hs.bel.trans (f2.below (by omega) (fun k hk => by omega))
  refine ⟨hw w2 hb2 ?_ ?_, f2, q1, hI.kept f2 ha, ha, hl⟩
  · rw [ba.frozen (p := ⟨w0.heap.size, 0, none⟩) (by rw [hz]; exact hl), World.frozen?_setCell]; exact hs.fz
  · rw [ba.cell (p := ⟨w0.heap.size, 0, none⟩) (by rw [hz]; exact hl)]; exact World.cell?_setCell_same _ _ _ hc

theorem irw1 (v : World) (x : Int) (X : TypeId) : Irw (v.alloc (.cells #[.int .i64 x] X)) (some ⟨v.heap.size, 0, none⟩) [x] :=
  ⟨by simp, fun _ => ⟨v.heap.size, 0, rfl, by rw [al_size]; omega, fun t ht => by
    have hb : (v.alloc (.cells #[.int .i64 x] X)).heap[v.heap.size]? = some (.cells #[.int .i64 x] X) := World.alloc_heap_new v _
    obtain rfl : t = 0 := by simp at ht; omega
    unfold World.cell?
    rw [hb]
    rfl⟩⟩

theorem irw2 (v : World) (x y : Int) (X : TypeId) : Irw (v.alloc (.cells #[.int .i64 x, .int .i64 y] X)) (some ⟨v.heap.size, 0, none⟩) [x, y] :=
  ⟨by simp, fun _ => ⟨v.heap.size, 0, rfl, by rw [al_size]; omega, fun t ht => by
    have hb : (v.alloc (.cells #[.int .i64 x, .int .i64 y] X)).heap[v.heap.size]? = some (.cells #[.int .i64 x, .int .i64 y] X) := World.alloc_heap_new v _
    unfold World.cell?
    rw [hb]
    have : t = 0 ∨ t = 1 := by simp at ht; omega
    rcases this with rfl | rfl <;> rfl⟩⟩

/-- What a tree's writing tells. -/
def Trs (w0 w w' : World) (txt : List Nat) (r : List Qn) (e : Ending) : Prop := e = .returned (.string (tbs txt)) ∧ (∃ L', qis L' = r ∧ Ws w0 w' L') ∧ Fr (fun k => k ≠ w0.heap.size) w w'

theorem any3 (k : Int) : [(3 : Int)].any (fun y => y == k) = decide (k = 3) := by
  by_cases h : k = 3
  · subst h; rfl
  · simp [h]; exact fun e => h e.symm

theorem any23 (k : Int) : [(2 : Int), 3].any (fun y => y == k) = isAO k := by
  unfold isAO
  by_cases h : k = 2
  · subst h; rfl
  by_cases h3 : k = 3
  · subst h3; rfl
  simp [h, h3]
  exact ⟨fun e => h e.symm, fun e => h3 e.symm⟩

theorem brk_len (is : Bool) (T : List Nat) : (brk is T).length ≤ T.length + 2 := by
  unfold brk
  split
  · simp
  · omega

set_option maxRecDepth 100000 in
set_option maxHeartbeats 4000000 in
theorem tree0 (w0 : World) (hB : TabB w0) (hX : TabX w0) (x : Qn) (hk : x.kind = 1) (hr : rgn x = true) : ∀ (L : List Qv) (r : List Qn) (w : World) (bo : Option Addr) (bn bc : Nat) (T : List Int), T.length = bn → qis L = [x] ++ r → Ws w0 w L → Irw w bo T → (∀ b o, bo = some ⟨b, o, none⟩ → 1 ≤ T.length → b ≠ w0.heap.size) →
    Calls Tryz.prog 27 #[.pointer (some ⟨w0.heap.size, 0, none⟩), .slice bo bn bc] w fun e w' => Trs w0 w w' (brk (T.any fun y => y == x.kind) (Qt.mk x []).txt) r e := by
  intro L r w bo bn bc T hbn hq hL hI hap
  obtain ⟨⟨T0, hT0⟩, hk0, hk1, hn0⟩ := rgn_find hk hr
  have hT9 := prt_le hT0
  obtain ⟨y, L', b, o, cap, hyi, hyl, hn9, cw, hnc, hcm, c0, c1, c2, c3, hlf, hmk⟩ := hL.head (x := x) (M := r) (by rw [hq]; simp)
  obtain ⟨n, hn⟩ : ∃ n, L'.length = n := ⟨_, rfl⟩
  rw [hn] at cw hnc hn9 hmk
  have HAP : Hid (∀ b o, bo = some ⟨b, o, none⟩ → 1 ≤ T.length → b ≠ w0.heap.size) := hap
  have CO : Hid (∀ v, Below w0.heap.size w0 v → Calls Tryz.prog 49 #[.agg #[.int .i64 1, .int .i64 0, .int .i64 0, .slice none 0 0]] v fun e w' => e = .returned (.string (tbs [40])) ∧ Below v.heap.size v w') := fun v hv =>
    qwritten_any ⟨⟨1, 0, 0, []⟩, none, 0⟩ [40] rfl v ⟨by show (0 : Nat) ≤ _; omega, fun h => by simp at h⟩ (hB.grow hv) (hX.grow hv)
  have CS : Hid (∀ v, Below w0.heap.size w0 v → Calls Tryz.prog 49 #[.agg #[.int .i64 2, .int .i64 0, .int .i64 0, .slice none 0 0]] v fun e w' => e = .returned (.string (tbs [41])) ∧ Below v.heap.size v w') := fun v hv =>
    qwritten_any ⟨⟨2, 0, 0, []⟩, none, 0⟩ [41] rfl v ⟨by show (0 : Nat) ≤ _; omega, fun h => by simp at h⟩ (hB.grow hv) (hX.grow hv)
  have CC : Hid (∀ v : World, Irw v bo T → Calls Tryz.prog 50 #[.slice bo bn bc, .int .i64 x.kind] v fun e w' => e = .returned (.bool (T.any fun y => y == x.kind)) ∧ Below v.heap.size v w') := fun v hv => icontains_any T bn bc bo x.kind hbn v hv
  obtain ⟨kk, hkk⟩ : ∃ kk : Nat, x.k = (kk : Int) := ⟨x.k.toNat, by omega⟩
  have hd7 := dgs_le7 (show kk ≤ 1000000 by omega)
  have htx : (Qt.mk x []).txt = lft x.p kk T0 := by
    rw [Qt.txt0, hT0, Option.getD_some, hkk]
    unfold lft
    by_cases h : 0 < kk
    · rw [if_pos (by omega), if_pos h]; rfl
    · rw [if_neg (by omega), if_neg h]
  have htl : (lft x.p kk T0).length ≤ 1000000 := by
    unfold lft
    rw [List.length_append]
    split
    · rw [List.length_cons]; omega
    · rw [List.length_nil]; omega
  have CL : Hid (∀ v, Below w0.heap.size w0 v → Calls Tryz.prog 47 #[.agg #[.slice y.ao x.p.length y.cap, .int .i64 x.k]] v fun e w' => e = .returned (.string (tbs (lft x.p kk T0))) ∧ Below v.heap.size v w') := fun v hv => by
    rw [hkk]
    exact wleaf_any x.p y.ao y.cap kk (by omega) T0 hT0 v (hlf.grow hv) (hB.grow hv) (hX.grow hv)
  rw [htx]
  generalize lft x.p kk T0 = tx at *
  have AO := add_tbq [40] tx (by simp; omega)
  have AS := add_tbq ([40] ++ tx) [41] (by simp; omega)
  rw [show tbs [40] = (⟨#[40]⟩ : ByteArray) from rfl] at AO CO
  rw [show tbs [41] = (⟨#[41]⟩ : ByteArray) from rfl] at AS CS
  have HR : Hid (qis L' = r) := hyl
  have TT : Hid (tbs (brk true tx) = tbs (([40] ++ tx) ++ [41])) := rfl
  have TF : Hid (tbs (brk false tx) = tbs tx) := rfl
  show Calls _ _ _ _ fun e w' => Trs _ _ _ _ _ e
  unfold Trs
  have q1 : (x.kind == 1) = true := by simpa using hk
  by_cases hc1 : cap = 1
  · subst hc1
    obtain rfl : n = 0 := by omega
    obtain ⟨w2, e2⟩ : ∃ w2, w2 = (w.setCell ⟨w0.heap.size, 0, none⟩ (.slice (some ⟨b, o, none⟩) 0 0)).alloc (.cells #[.int .i64 x.kind, .int .i64 x.n, .slice y.ao x.p.length y.cap, .int .i64 x.k] 36) := ⟨_, rfl⟩
    have D2 : Hid (Tw w0 w w2 L' bo T (.int .i64 x.kind) (.int .i64 x.n) (.slice y.ao x.p.length y.cap) (.int .i64 x.k)) := tw_start hL hI hap e2 (fun w' hb' hf' hc' => hmk w' _ _ hb' hf' hc' (fun h1 => by first | rfl | omega) (by omega) (by omega))
    have E2 : Hid _ := e2
    have fz := hL.fz
    have hlt := hL.lt
    clear e2

    clear hmk hL hI hap hq hbn hlf hyi hyl hkk hT0 hT9 hk hr hn0 hk0 hk1 hB hX htx htl hd7
    generalize tbs (([40] ++ tx) ++ [41]) = t3 at *
    generalize tbs ([40] ++ tx) = t2 at *
    generalize x.p.length = xl at *
    generalize x.kind = xk at *
    generalize x.n = xn at *
    generalize x.k = xK at *
    go_enter Tryz.func27, Tryz.ntmps27
    have CL2 : Hid _ := CL.out _ D2.out.ws.bel
    obtain ⟨d0, d1, d2, d3⟩ := D2.out.q
    go_wp2_with (first | rw [← E2.out])
    clear d0 d1 d2 d3
    refine Calls.mono CL2.out ?_; rintro e w3 ⟨rfl, b3⟩
    have D3 : Hid _ := D2.out.grow b3
    clear b3 CL CL2 D2 E2 c0 c1 c2 c3 cw
    obtain ⟨c0, c1, c2, c3⟩ := D3.out.q
    go_wp2_with fail
    refine Calls.mono (CC.out _ D3.out.ir) ?_; rintro e w8 ⟨rfl, b8⟩
    have D8 : Hid _ := D3.out.grow b8
    clear b8 D3 CC
    cases hB9 : (T.any fun y => y == xk) with
    | false =>
      go_wp2_with fail
      go_ret
      exact ⟨by rw [hB9, TF.out]; rfl, ⟨_, HR.out, D8.out.ws⟩, D8.out.fr⟩
    | true =>
      have CO2 : Hid _ := CO.out _ D8.out.ws.bel
      clear CO
      go_wp2_with fail
      refine Calls.mono CO2.out ?_; rintro e w9 ⟨rfl, b9⟩
      have D9 : Hid _ := D8.out.grow b9
      have CS2 : Hid _ := CS.out _ D9.out.ws.bel
      clear b9 D8 CO2 CS
      go_wp2_with fail
      refine Calls.mono CS2.out ?_; rintro e w10 ⟨rfl, b10⟩
      have D10 : Hid _ := D9.out.grow b10
      clear b10 D9 CS2
      go_wp2_with fail
      go_ret
      exact ⟨by rw [hB9, TT.out]; rfl, ⟨_, HR.out, D10.out.ws⟩, D10.out.fr⟩
  · have hcI : ¬ cap = 1 := hc1
    obtain ⟨w2, e2⟩ : ∃ w2, w2 = (w.setCell ⟨w0.heap.size, 0, none⟩ (.slice (some ⟨b, o + 4, none⟩) n (cap - 1))).alloc (.cells #[.int .i64 x.kind, .int .i64 x.n, .slice y.ao x.p.length y.cap, .int .i64 x.k] 36) := ⟨_, rfl⟩
    have D2 : Hid (Tw w0 w w2 L' bo T (.int .i64 x.kind) (.int .i64 x.n) (.slice y.ao x.p.length y.cap) (.int .i64 x.k)) := tw_start hL hI hap e2 (fun w' hb' hf' hc' => hmk w' _ _ hb' hf' hc' (fun h1 => by first | rfl | omega) (by omega) (by omega))
    have E2 : Hid _ := e2
    have fz := hL.fz
    have hlt := hL.lt
    clear e2

    clear hmk hL hI hap hq hbn hlf hyi hyl hkk hT0 hT9 hk hr hn0 hk0 hk1 hB hX htx htl hd7
    generalize tbs (([40] ++ tx) ++ [41]) = t3 at *
    generalize tbs ([40] ++ tx) = t2 at *
    generalize x.p.length = xl at *
    generalize x.kind = xk at *
    generalize x.n = xn at *
    generalize x.k = xK at *
    go_enter Tryz.func27, Tryz.ntmps27
    have CL2 : Hid _ := CL.out _ D2.out.ws.bel
    obtain ⟨d0, d1, d2, d3⟩ := D2.out.q
    go_wp2_with (first | rw [← E2.out])
    clear d0 d1 d2 d3
    refine Calls.mono CL2.out ?_; rintro e w3 ⟨rfl, b3⟩
    have D3 : Hid _ := D2.out.grow b3
    clear b3 CL CL2 D2 E2 c0 c1 c2 c3 cw
    obtain ⟨c0, c1, c2, c3⟩ := D3.out.q
    go_wp2_with fail
    refine Calls.mono (CC.out _ D3.out.ir) ?_; rintro e w8 ⟨rfl, b8⟩
    have D8 : Hid _ := D3.out.grow b8
    clear b8 D3 CC
    cases hB9 : (T.any fun y => y == xk) with
    | false =>
      go_wp2_with fail
      go_ret
      exact ⟨by rw [hB9, TF.out]; rfl, ⟨_, HR.out, D8.out.ws⟩, D8.out.fr⟩
    | true =>
      have CO2 : Hid _ := CO.out _ D8.out.ws.bel
      clear CO
      go_wp2_with fail
      refine Calls.mono CO2.out ?_; rintro e w9 ⟨rfl, b9⟩
      have D9 : Hid _ := D8.out.grow b9
      have CS2 : Hid _ := CS.out _ D9.out.ws.bel
      clear b9 D8 CO2 CS
      go_wp2_with fail
      refine Calls.mono CS2.out ?_; rintro e w10 ⟨rfl, b10⟩
      have D10 : Hid _ := D9.out.grow b10
      clear b10 D9 CS2
      go_wp2_with fail
      go_ret
      exact ⟨by rw [hB9, TT.out]; rfl, ⟨_, HR.out, D10.out.ws⟩, D10.out.fr⟩

set_option maxRecDepth 100000 in
set_option maxHeartbeats 4000000 in
theorem tree1 (w0 : World) (hB : TabB w0) (hX : TabX w0) (x : Qn) (a : Qt) (hk : x.kind = 4 ∨ x.kind = 5) (hr : rgn x = true) (hra : a.rg) (ih : ∀ (L : List Qv) (r : List Qn) (w : World) (bo : Option Addr) (bn bc : Nat) (T : List Int), T.length = bn → qis L = a.flat ++ r → Ws w0 w L → Irw w bo T → (∀ b o, bo = some ⟨b, o, none⟩ → 1 ≤ T.length → b ≠ w0.heap.size) →
    Calls Tryz.prog 27 #[.pointer (some ⟨w0.heap.size, 0, none⟩), .slice bo bn bc] w fun e w' => Trs w0 w w' (brk (T.any fun y => y == a.x.kind) a.txt) r e) : ∀ (L : List Qv) (r : List Qn) (w : World) (bo : Option Addr) (bn bc : Nat) (T : List Int), T.length = bn → qis L = (x :: a.flat) ++ r → Ws w0 w L → Irw w bo T → (∀ b o, bo = some ⟨b, o, none⟩ → 1 ≤ T.length → b ≠ w0.heap.size) →
    Calls Tryz.prog 27 #[.pointer (some ⟨w0.heap.size, 0, none⟩), .slice bo bn bc] w fun e w' => Trs w0 w w' (brk (T.any fun y => y == x.kind) (Qt.mk x [a]).txt) r e := by
  intro L r w bo bn bc T hbn hq hL hI hap
  have hn0 := rgn_shift hr
  have hal := txt_le a hra
  have hap1 := a.flat_pos
  obtain ⟨y, L', b, o, cap, hyi, hyl, hn9, cw, hnc, hcm, c0, c1, c2, c3, hlf, hmk⟩ := hL.head (x := x) (M := a.flat ++ r) (by rw [hq]; simp)
  obtain ⟨n, hn⟩ : ∃ n, L'.length = n := ⟨_, rfl⟩
  rw [hn] at cw hnc hn9 hmk
  have HAP : Hid (∀ b o, bo = some ⟨b, o, none⟩ → 1 ≤ T.length → b ≠ w0.heap.size) := hap
  have CO : Hid (∀ v, Below w0.heap.size w0 v → Calls Tryz.prog 49 #[.agg #[.int .i64 1, .int .i64 0, .int .i64 0, .slice none 0 0]] v fun e w' => e = .returned (.string (tbs [40])) ∧ Below v.heap.size v w') := fun v hv =>
    qwritten_any ⟨⟨1, 0, 0, []⟩, none, 0⟩ [40] rfl v ⟨by show (0 : Nat) ≤ _; omega, fun h => by simp at h⟩ (hB.grow hv) (hX.grow hv)
  have CS : Hid (∀ v, Below w0.heap.size w0 v → Calls Tryz.prog 49 #[.agg #[.int .i64 2, .int .i64 0, .int .i64 0, .slice none 0 0]] v fun e w' => e = .returned (.string (tbs [41])) ∧ Below v.heap.size v w') := fun v hv =>
    qwritten_any ⟨⟨2, 0, 0, []⟩, none, 0⟩ [41] rfl v ⟨by show (0 : Nat) ≤ _; omega, fun h => by simp at h⟩ (hB.grow hv) (hX.grow hv)
  have CC : Hid (∀ v : World, Irw v bo T → Calls Tryz.prog 50 #[.slice bo bn bc, .int .i64 x.kind] v fun e w' => e = .returned (.bool (T.any fun y => y == x.kind)) ∧ Below v.heap.size v w') := fun v hv => icontains_any T bn bc bo x.kind hbn v hv
  have hla : a.flat.length ≤ n := by have := congrArg List.length hyl; rw [qis_len, hn, List.length_append] at this; omega
  obtain ⟨kk, hkk⟩ : ∃ kk : Nat, x.n = (kk : Int) := ⟨x.n.toNat, by omega⟩
  have hkk6 : kk ≤ 1000000 := by omega
  have hd7 := dgs_le7 hkk6
  have hbl := brk_len (isAO a.x.kind) a.txt
  have hcI : ¬ cap = 1 := by omega
  show Calls _ _ _ _ fun e w' => Trs _ _ _ _ _ e
  unfold Trs
  by_cases h4 : x.kind = 4
  · have htx : (Qt.mk x [a]).txt = [33] ++ brk (isAO a.x.kind) a.txt := by rw [Qt.txt1, if_pos h4]
    rw [htx]
    have CN : Hid (∀ v, Below w0.heap.size w0 v → Calls Tryz.prog 49 #[.agg #[.int .i64 5, .int .i64 0, .int .i64 0, .slice none 0 0]] v fun e w' => e = .returned (.string (tbs [33])) ∧ Below v.heap.size v w') := fun v hv =>
      qwritten_any ⟨⟨5, 0, 0, []⟩, none, 0⟩ [33] (rfl) v ⟨by show (0 : Nat) ≤ _; omega, fun h => by simp at h⟩ (hB.grow hv) (hX.grow hv)
    have q1 : (x.kind == 1) = false := by rw [beq_eq_false_iff_ne]; omega
    have q2 : (x.kind == 2) = false := by rw [beq_eq_false_iff_ne]; omega
    have q3 : (x.kind == 3) = false := by rw [beq_eq_false_iff_ne]; omega
    have q4 : (x.kind == 4) = true := by rw [beq_iff_eq]; omega

    have AN := add_tbq [33] (brk (isAO a.x.kind) a.txt) (by simp; omega)
    have htl : ([33] ++ brk (isAO a.x.kind) a.txt).length ≤ 7000000000000000000 := by simp; omega
    have HY : Hid (qis L' = a.flat ++ r) := hyl
    have IH : Hid _ := ih
    clear ih htx hal hla
    generalize [33] ++ brk (isAO a.x.kind) a.txt = tx at *
    obtain ⟨ta, hta⟩ : ∃ ta, ta = brk (isAO a.x.kind) a.txt := ⟨_, rfl⟩
    rw [← hta] at AN
    generalize [33] = tp at *

    obtain ⟨w2, e2⟩ : ∃ w2, w2 = (w.setCell ⟨w0.heap.size, 0, none⟩ (.slice (some ⟨b, o + 4, none⟩) n (cap - 1))).alloc (.cells #[.int .i64 x.kind, .int .i64 x.n, .slice y.ao x.p.length y.cap, .int .i64 x.k] 36) := ⟨_, rfl⟩
    have D2 : Hid (Tw w0 w w2 L' bo T (.int .i64 x.kind) (.int .i64 x.n) (.slice y.ao x.p.length y.cap) (.int .i64 x.k)) := tw_start hL hI hap e2 (fun w' hb' hf' hc' => hmk w' _ _ hb' hf' hc' (fun h1 => by first | rfl | omega) (by omega) (by omega))
    have E2 : Hid _ := e2
    have fz := hL.fz
    have hlt := hL.lt
    clear e2

    have AO := add_tbq [40] tx (by simp; omega)
    have AS := add_tbq ([40] ++ tx) [41] (by simp; omega)
    rw [show tbs [40] = (⟨#[40]⟩ : ByteArray) from rfl] at AO CO
    rw [show tbs [41] = (⟨#[41]⟩ : ByteArray) from rfl] at AS CS
    have TT : Hid (tbs (brk true tx) = tbs (([40] ++ tx) ++ [41])) := rfl
    have TF : Hid (tbs (brk false tx) = tbs tx) := rfl
    generalize tbs (([40] ++ tx) ++ [41]) = t3 at *
    generalize tbs ([40] ++ tx) = t2 at *

    generalize tbs tx = ts at *
    obtain ⟨tas, htas⟩ : ∃ tas, tas = tbs ta := ⟨_, rfl⟩
    rw [← htas] at AN
    have HTA : Hid (tbs (brk (isAO a.x.kind) a.txt) = tas) := by show _ = _; rw [htas, hta]
    clear hta htas
    generalize tbs tp = tps at *
    clear hyl hkk hk h4

    clear hmk hL hI hap hq hbn hlf hyi hn0 hB hX hr
    generalize x.p.length = xl at *
    generalize x.kind = xk at *
    generalize x.n = xn at *
    generalize x.k = xK at *
    go_enter Tryz.func27, Tryz.ntmps27
    obtain ⟨d0, d1, d2, d3⟩ := D2.out.q
    go_wp2_with (first | rw [← E2.out])
    clear d0 d1 d2 d3

    have CN2 : Hid _ := CN.out _ D2.out.ws.bel
    refine Calls.mono CN2.out ?_; rintro e w3 ⟨rfl, b3⟩
    have D3 : Hid _ := D2.out.grow b3
    clear b3 CN CN2 D2 E2 c0 c1 c2 c3 cw

    have D50 : Hid _ := (D3.out.grow (al_below _ (.cells #[.int .i64 2, .int .i64 3] 3)))
    have CI : Hid (Calls Tryz.prog 27 #[.pointer (some ⟨w0.heap.size, 0, none⟩), .slice (some ⟨w3.heap.size, 0, none⟩) 2 2] (w3.alloc (.cells #[.int .i64 2, .int .i64 3] 3)) fun e w' => e = .returned (.string tas) ∧ (∃ L', qis L' = r ∧ Ws w0 w' L') ∧ Fr (fun k => k ≠ w0.heap.size) (w3.alloc (.cells #[.int .i64 2, .int .i64 3] 3)) w') := by
      have h := IH.out L' (r) (w3.alloc (.cells #[.int .i64 2, .int .i64 3] 3)) (some ⟨w3.heap.size, 0, none⟩) 2 2 [2, 3] rfl HY.out D50.out.ws (irw2 w3 2 3 _) (fun b o e _ => by cases e; have := D3.out.ws.lt; omega)
      unfold Trs at h; rw [any23] at h
      rw [HTA.out] at h
      exact h
    clear D3
    go_wp2_with fail

    refine Calls.mono CI.out ?_; rintro e w5 ⟨rfl, ⟨L5, hL5, hs⟩, hf⟩
    have D5 : Hid _ := D50.out.step hf hs
    clear hs hf CI D50

    have HR : Hid (qis L5 = r) := hL5
    clear hL5 HY IH
    obtain ⟨c0, c1, c2, c3⟩ := D5.out.q
    go_wp2_with fail
    refine Calls.mono (CC.out _ D5.out.ir) ?_; rintro e w8 ⟨rfl, b8⟩
    have D8 : Hid _ := D5.out.grow b8
    clear b8 D5 CC
    cases hB9 : (T.any fun y => y == xk) with
    | false =>
      go_wp2_with fail
      go_ret
      exact ⟨by rw [hB9, TF.out]; rfl, ⟨_, HR.out, D8.out.ws⟩, D8.out.fr⟩
    | true =>
      have CO2 : Hid _ := CO.out _ D8.out.ws.bel
      clear CO
      go_wp2_with fail
      refine Calls.mono CO2.out ?_; rintro e w9 ⟨rfl, b9⟩
      have D9 : Hid _ := D8.out.grow b9
      have CS2 : Hid _ := CS.out _ D9.out.ws.bel
      clear b9 D8 CO2 CS
      go_wp2_with fail
      refine Calls.mono CS2.out ?_; rintro e w10 ⟨rfl, b10⟩
      have D10 : Hid _ := D9.out.grow b10
      clear b10 D9 CS2
      go_wp2_with fail
      go_ret
      exact ⟨by rw [hB9, TT.out]; rfl, ⟨_, HR.out, D10.out.ws⟩, D10.out.fr⟩
  · have htx : (Qt.mk x [a]).txt = (62 :: dgs kk) ++ brk (isAO a.x.kind) a.txt := by rw [Qt.txt1, if_neg h4, hkk, Int.toNat_natCast]
    rw [htx]
    have CN : Hid (∀ v, Below w0.heap.size w0 v → Calls Tryz.prog 49 #[.agg #[.int .i64 6, .int .i64 0, .int .i64 x.n, .slice none 0 0]] v fun e w' => e = .returned (.string (tbs (62 :: dgs kk))) ∧ Below v.heap.size v w') := fun v hv =>
      qwritten_any ⟨⟨6, 0, x.n, []⟩, none, 0⟩ (62 :: dgs kk) (by show prI _ = _; unfold prI; rw [if_neg (by simp only []; omega), hkk]; exact prt_shift hkk6) v ⟨by show (0 : Nat) ≤ _; omega, fun h => by simp at h⟩ (hB.grow hv) (hX.grow hv)
    have q1 : (x.kind == 1) = false := by rw [beq_eq_false_iff_ne]; omega
    have q2 : (x.kind == 2) = false := by rw [beq_eq_false_iff_ne]; omega
    have q3 : (x.kind == 3) = false := by rw [beq_eq_false_iff_ne]; omega
    have q4 : (x.kind == 4) = false := by rw [beq_eq_false_iff_ne]; omega
    have q5 : (x.kind == 5) = true := by rw [beq_iff_eq]; omega

    have AN := add_tbq (62 :: dgs kk) (brk (isAO a.x.kind) a.txt) (by simp; omega)
    have htl : ((62 :: dgs kk) ++ brk (isAO a.x.kind) a.txt).length ≤ 7000000000000000000 := by simp; omega
    have HY : Hid (qis L' = a.flat ++ r) := hyl
    have IH : Hid _ := ih
    clear ih htx hal hla
    generalize (62 :: dgs kk) ++ brk (isAO a.x.kind) a.txt = tx at *
    obtain ⟨ta, hta⟩ : ∃ ta, ta = brk (isAO a.x.kind) a.txt := ⟨_, rfl⟩
    rw [← hta] at AN
    generalize (62 :: dgs kk) = tp at *

    obtain ⟨w2, e2⟩ : ∃ w2, w2 = (w.setCell ⟨w0.heap.size, 0, none⟩ (.slice (some ⟨b, o + 4, none⟩) n (cap - 1))).alloc (.cells #[.int .i64 x.kind, .int .i64 x.n, .slice y.ao x.p.length y.cap, .int .i64 x.k] 36) := ⟨_, rfl⟩
    have D2 : Hid (Tw w0 w w2 L' bo T (.int .i64 x.kind) (.int .i64 x.n) (.slice y.ao x.p.length y.cap) (.int .i64 x.k)) := tw_start hL hI hap e2 (fun w' hb' hf' hc' => hmk w' _ _ hb' hf' hc' (fun h1 => by first | rfl | omega) (by omega) (by omega))
    have E2 : Hid _ := e2
    have fz := hL.fz
    have hlt := hL.lt
    clear e2

    have AO := add_tbq [40] tx (by simp; omega)
    have AS := add_tbq ([40] ++ tx) [41] (by simp; omega)
    rw [show tbs [40] = (⟨#[40]⟩ : ByteArray) from rfl] at AO CO
    rw [show tbs [41] = (⟨#[41]⟩ : ByteArray) from rfl] at AS CS
    have TT : Hid (tbs (brk true tx) = tbs (([40] ++ tx) ++ [41])) := rfl
    have TF : Hid (tbs (brk false tx) = tbs tx) := rfl
    generalize tbs (([40] ++ tx) ++ [41]) = t3 at *
    generalize tbs ([40] ++ tx) = t2 at *

    generalize tbs tx = ts at *
    obtain ⟨tas, htas⟩ : ∃ tas, tas = tbs ta := ⟨_, rfl⟩
    rw [← htas] at AN
    have HTA : Hid (tbs (brk (isAO a.x.kind) a.txt) = tas) := by show _ = _; rw [htas, hta]
    clear hta htas
    generalize tbs tp = tps at *
    clear hyl hkk hk h4

    clear hmk hL hI hap hq hbn hlf hyi hn0 hB hX hr
    generalize x.p.length = xl at *
    generalize x.kind = xk at *
    generalize x.n = xn at *
    generalize x.k = xK at *
    go_enter Tryz.func27, Tryz.ntmps27
    obtain ⟨d0, d1, d2, d3⟩ := D2.out.q
    go_wp2_with (first | rw [← E2.out])
    clear d0 d1 d2 d3

    have CN2 : Hid _ := CN.out _ D2.out.ws.bel
    refine Calls.mono CN2.out ?_; rintro e w3 ⟨rfl, b3⟩
    have D3 : Hid _ := D2.out.grow b3
    clear b3 CN CN2 D2 E2 c0 c1 c2 c3 cw

    have D50 : Hid _ := (D3.out.grow (al_below _ (.cells #[.int .i64 2, .int .i64 3] 3)))
    have CI : Hid (Calls Tryz.prog 27 #[.pointer (some ⟨w0.heap.size, 0, none⟩), .slice (some ⟨w3.heap.size, 0, none⟩) 2 2] (w3.alloc (.cells #[.int .i64 2, .int .i64 3] 3)) fun e w' => e = .returned (.string tas) ∧ (∃ L', qis L' = r ∧ Ws w0 w' L') ∧ Fr (fun k => k ≠ w0.heap.size) (w3.alloc (.cells #[.int .i64 2, .int .i64 3] 3)) w') := by
      have h := IH.out L' (r) (w3.alloc (.cells #[.int .i64 2, .int .i64 3] 3)) (some ⟨w3.heap.size, 0, none⟩) 2 2 [2, 3] rfl HY.out D50.out.ws (irw2 w3 2 3 _) (fun b o e _ => by cases e; have := D3.out.ws.lt; omega)
      unfold Trs at h; rw [any23] at h
      rw [HTA.out] at h
      exact h
    clear D3
    go_wp2_with fail

    refine Calls.mono CI.out ?_; rintro e w5 ⟨rfl, ⟨L5, hL5, hs⟩, hf⟩
    have D5 : Hid _ := D50.out.step hf hs
    clear hs hf CI D50

    have HR : Hid (qis L5 = r) := hL5
    clear hL5 HY IH
    obtain ⟨c0, c1, c2, c3⟩ := D5.out.q
    go_wp2_with fail
    refine Calls.mono (CC.out _ D5.out.ir) ?_; rintro e w8 ⟨rfl, b8⟩
    have D8 : Hid _ := D5.out.grow b8
    clear b8 D5 CC
    cases hB9 : (T.any fun y => y == xk) with
    | false =>
      go_wp2_with fail
      go_ret
      exact ⟨by rw [hB9, TF.out]; rfl, ⟨_, HR.out, D8.out.ws⟩, D8.out.fr⟩
    | true =>
      have CO2 : Hid _ := CO.out _ D8.out.ws.bel
      clear CO
      go_wp2_with fail
      refine Calls.mono CO2.out ?_; rintro e w9 ⟨rfl, b9⟩
      have D9 : Hid _ := D8.out.grow b9
      have CS2 : Hid _ := CS.out _ D9.out.ws.bel
      clear b9 D8 CO2 CS
      go_wp2_with fail
      refine Calls.mono CS2.out ?_; rintro e w10 ⟨rfl, b10⟩
      have D10 : Hid _ := D9.out.grow b10
      clear b10 D9 CS2
      go_wp2_with fail
      go_ret
      exact ⟨by rw [hB9, TT.out]; rfl, ⟨_, HR.out, D10.out.ws⟩, D10.out.fr⟩

set_option maxRecDepth 100000 in
set_option maxHeartbeats 4000000 in
theorem tree2 (w0 : World) (hB : TabB w0) (hX : TabX w0) (x : Qn) (a c : Qt) (hk : x.kind = 2 ∨ x.kind = 3) (hra : a.rg) (hrc : c.rg) (iha : ∀ (L : List Qv) (r : List Qn) (w : World) (bo : Option Addr) (bn bc : Nat) (T : List Int), T.length = bn → qis L = a.flat ++ r → Ws w0 w L → Irw w bo T → (∀ b o, bo = some ⟨b, o, none⟩ → 1 ≤ T.length → b ≠ w0.heap.size) →
    Calls Tryz.prog 27 #[.pointer (some ⟨w0.heap.size, 0, none⟩), .slice bo bn bc] w fun e w' => Trs w0 w w' (brk (T.any fun y => y == a.x.kind) a.txt) r e) (ihc : ∀ (L : List Qv) (r : List Qn) (w : World) (bo : Option Addr) (bn bc : Nat) (T : List Int), T.length = bn → qis L = c.flat ++ r → Ws w0 w L → Irw w bo T → (∀ b o, bo = some ⟨b, o, none⟩ → 1 ≤ T.length → b ≠ w0.heap.size) →
    Calls Tryz.prog 27 #[.pointer (some ⟨w0.heap.size, 0, none⟩), .slice bo bn bc] w fun e w' => Trs w0 w w' (brk (T.any fun y => y == c.x.kind) c.txt) r e) : ∀ (L : List Qv) (r : List Qn) (w : World) (bo : Option Addr) (bn bc : Nat) (T : List Int), T.length = bn → qis L = (x :: (a.flat ++ c.flat)) ++ r → Ws w0 w L → Irw w bo T → (∀ b o, bo = some ⟨b, o, none⟩ → 1 ≤ T.length → b ≠ w0.heap.size) →
    Calls Tryz.prog 27 #[.pointer (some ⟨w0.heap.size, 0, none⟩), .slice bo bn bc] w fun e w' => Trs w0 w w' (brk (T.any fun y => y == x.kind) (Qt.mk x [a, c]).txt) r e := by
  intro L r w bo bn bc T hbn hq hL hI hap
  have hal := txt_le a hra
  have hcl := txt_le c hrc
  have hap1 := a.flat_pos
  obtain ⟨y, L', b, o, cap, hyi, hyl, hn9, cw, hnc, hcm, c0, c1, c2, c3, hlf, hmk⟩ := hL.head (x := x) (M := a.flat ++ (c.flat ++ r)) (by rw [hq]; simp)
  obtain ⟨n, hn⟩ : ∃ n, L'.length = n := ⟨_, rfl⟩
  rw [hn] at cw hnc hn9 hmk
  have HAP : Hid (∀ b o, bo = some ⟨b, o, none⟩ → 1 ≤ T.length → b ≠ w0.heap.size) := hap
  have CO : Hid (∀ v, Below w0.heap.size w0 v → Calls Tryz.prog 49 #[.agg #[.int .i64 1, .int .i64 0, .int .i64 0, .slice none 0 0]] v fun e w' => e = .returned (.string (tbs [40])) ∧ Below v.heap.size v w') := fun v hv =>
    qwritten_any ⟨⟨1, 0, 0, []⟩, none, 0⟩ [40] rfl v ⟨by show (0 : Nat) ≤ _; omega, fun h => by simp at h⟩ (hB.grow hv) (hX.grow hv)
  have CS : Hid (∀ v, Below w0.heap.size w0 v → Calls Tryz.prog 49 #[.agg #[.int .i64 2, .int .i64 0, .int .i64 0, .slice none 0 0]] v fun e w' => e = .returned (.string (tbs [41])) ∧ Below v.heap.size v w') := fun v hv =>
    qwritten_any ⟨⟨2, 0, 0, []⟩, none, 0⟩ [41] rfl v ⟨by show (0 : Nat) ≤ _; omega, fun h => by simp at h⟩ (hB.grow hv) (hX.grow hv)
  have CC : Hid (∀ v : World, Irw v bo T → Calls Tryz.prog 50 #[.slice bo bn bc, .int .i64 x.kind] v fun e w' => e = .returned (.bool (T.any fun y => y == x.kind)) ∧ Below v.heap.size v w') := fun v hv => icontains_any T bn bc bo x.kind hbn v hv
  have hla : a.flat.length + c.flat.length ≤ n := by have := congrArg List.length hyl; rw [qis_len, hn, List.length_append, List.length_append] at this; omega
  have hcI : ¬ cap = 1 := by omega
  show Calls _ _ _ _ fun e w' => Trs _ _ _ _ _ e
  unfold Trs
  by_cases h2 : x.kind = 2
  · have htx : (Qt.mk x [a, c]).txt = brk (decide (a.x.kind = 3)) a.txt ++ ([32, 38, 32] ++ brk (isAO c.x.kind) c.txt) := by rw [Qt.txt2, if_pos h2]
    rw [htx]
    have CN : Hid (∀ v, Below w0.heap.size w0 v → Calls Tryz.prog 48 #[.int .i64 3] v fun e w' => e = .returned (.string (tbs [32, 38, 32])) ∧ Below v.heap.size v w') := fun v hv =>
      between_any 3 38 rfl v (hB.grow hv) (hX.grow hv)
    have q1 : (x.kind == 1) = false := by rw [beq_eq_false_iff_ne]; omega
    have q2 : (x.kind == 2) = true := by rw [beq_iff_eq]; omega

    have hba := brk_len (decide (a.x.kind = 3)) a.txt
    have hbc := brk_len (isAO c.x.kind) c.txt
    have hbc2 := brk_len (decide (c.x.kind = 3)) c.txt
    have AN := add_tbq (brk (decide (a.x.kind = 3)) a.txt) [32, 38, 32] (by simp; omega)
    have AN2 := add_tbq (brk (decide (a.x.kind = 3)) a.txt ++ [32, 38, 32]) (brk (isAO c.x.kind) c.txt) (by simp; omega)
    rw [List.append_assoc] at AN2
    have htl : (brk (decide (a.x.kind = 3)) a.txt ++ ([32, 38, 32] ++ brk (isAO c.x.kind) c.txt)).length ≤ 7000000000000000000 := by simp; omega
    have HY : Hid (qis L' = a.flat ++ (c.flat ++ r)) := hyl
    have IHA : Hid _ := iha
    have IHC : Hid _ := ihc
    clear iha ihc htx hal hcl hla hba hbc hbc2
    generalize brk (decide (a.x.kind = 3)) a.txt ++ ([32, 38, 32] ++ brk (isAO c.x.kind) c.txt) = tx at *
    generalize brk (decide (a.x.kind = 3)) a.txt ++ [32, 38, 32] = tm at *
    obtain ⟨ta, hta⟩ : ∃ ta, ta = brk (decide (a.x.kind = 3)) a.txt := ⟨_, rfl⟩
    obtain ⟨tc, htc⟩ : ∃ tc, tc = brk (isAO c.x.kind) c.txt := ⟨_, rfl⟩
    rw [← hta] at AN
    rw [← htc] at AN2

    obtain ⟨w2, e2⟩ : ∃ w2, w2 = (w.setCell ⟨w0.heap.size, 0, none⟩ (.slice (some ⟨b, o + 4, none⟩) n (cap - 1))).alloc (.cells #[.int .i64 x.kind, .int .i64 x.n, .slice y.ao x.p.length y.cap, .int .i64 x.k] 36) := ⟨_, rfl⟩
    have D2 : Hid (Tw w0 w w2 L' bo T (.int .i64 x.kind) (.int .i64 x.n) (.slice y.ao x.p.length y.cap) (.int .i64 x.k)) := tw_start hL hI hap e2 (fun w' hb' hf' hc' => hmk w' _ _ hb' hf' hc' (fun h1 => by first | rfl | omega) (by omega) (by omega))
    have E2 : Hid _ := e2
    have fz := hL.fz
    have hlt := hL.lt
    clear e2

    have AO := add_tbq [40] tx (by simp; omega)
    have AS := add_tbq ([40] ++ tx) [41] (by simp; omega)
    rw [show tbs [40] = (⟨#[40]⟩ : ByteArray) from rfl] at AO CO
    rw [show tbs [41] = (⟨#[41]⟩ : ByteArray) from rfl] at AS CS
    have TT : Hid (tbs (brk true tx) = tbs (([40] ++ tx) ++ [41])) := rfl
    have TF : Hid (tbs (brk false tx) = tbs tx) := rfl
    generalize tbs (([40] ++ tx) ++ [41]) = t3 at *
    generalize tbs ([40] ++ tx) = t2 at *

    generalize tbs tx = ts at *
    generalize tbs tm = tms at *
    generalize tbs [32, 38, 32] = tps at *
    obtain ⟨tas, htas⟩ : ∃ tas, tas = tbs ta := ⟨_, rfl⟩
    obtain ⟨tcs, htcs⟩ : ∃ tcs, tcs = tbs tc := ⟨_, rfl⟩
    rw [← htas] at AN
    rw [← htcs] at AN2
    have HTA : Hid (tbs (brk (decide (a.x.kind = 3)) a.txt) = tas) := by show _ = _; rw [htas, hta]
    have HTC : Hid (tbs (brk (isAO c.x.kind) c.txt) = tcs) := by show _ = _; rw [htcs, htc]
    clear hyl hk h2 hta htc htas htcs

    clear hmk hL hI hap hq hbn hlf hyi hB hX
    generalize x.p.length = xl at *
    generalize x.kind = xk at *
    generalize x.n = xn at *
    generalize x.k = xK at *
    go_enter Tryz.func27, Tryz.ntmps27
    obtain ⟨d0, d1, d2, d3⟩ := D2.out.q
    have D2w : Hid _ := D2
    go_wp2_with (first | rw [← E2.out])
    clear d0 d1 d2 d3
    clear D2w

    have D40 : Hid _ := (D2.out.grow (al_below _ (.cells #[.int .i64 3] 3)))
    have CI : Hid (Calls Tryz.prog 27 #[.pointer (some ⟨w0.heap.size, 0, none⟩), .slice (some ⟨w2.heap.size, 0, none⟩) 1 1] (w2.alloc (.cells #[.int .i64 3] 3)) fun e w' => e = .returned (.string tas) ∧ (∃ L', qis L' = c.flat ++ r ∧ Ws w0 w' L') ∧ Fr (fun k => k ≠ w0.heap.size) (w2.alloc (.cells #[.int .i64 3] 3)) w') := by
      have h := IHA.out L' (c.flat ++ r) (w2.alloc (.cells #[.int .i64 3] 3)) (some ⟨w2.heap.size, 0, none⟩) 1 1 [3] rfl HY.out D40.out.ws (irw1 w2 3 _) (fun b o e _ => by cases e; have := D2.out.ws.lt; omega)
      unfold Trs at h; rw [any3] at h
      rw [HTA.out] at h
      exact h
    clear D2

    refine Calls.mono CI.out ?_; rintro e w4 ⟨rfl, ⟨L4, hL4, hs⟩, hf⟩
    have D4 : Hid _ := D40.out.step hf hs
    clear hs hf CI D40

    have HY4 : Hid (qis L4 = c.flat ++ r) := hL4
    clear hL4 HY IHA E2 c0 c1 c2 c3 cw
    have CN2 : Hid _ := CN.out _ D4.out.ws.bel
    go_wp2_with fail
    refine Calls.mono CN2.out ?_; rintro e w5 ⟨rfl, b5⟩
    have D5 : Hid _ := D4.out.grow b5
    clear b5 CN CN2 D4
    go_wp2_with fail

    have D70 : Hid _ := (D5.out.grow (al_below _ (.cells #[.int .i64 2, .int .i64 3] 3)))
    have CI : Hid (Calls Tryz.prog 27 #[.pointer (some ⟨w0.heap.size, 0, none⟩), .slice (some ⟨w5.heap.size, 0, none⟩) 2 2] (w5.alloc (.cells #[.int .i64 2, .int .i64 3] 3)) fun e w' => e = .returned (.string tcs) ∧ (∃ L', qis L' = r ∧ Ws w0 w' L') ∧ Fr (fun k => k ≠ w0.heap.size) (w5.alloc (.cells #[.int .i64 2, .int .i64 3] 3)) w') := by
      have h := IHC.out L4 (r) (w5.alloc (.cells #[.int .i64 2, .int .i64 3] 3)) (some ⟨w5.heap.size, 0, none⟩) 2 2 [2, 3] rfl HY4.out D70.out.ws (irw2 w5 2 3 _) (fun b o e _ => by cases e; have := D5.out.ws.lt; omega)
      unfold Trs at h; rw [any23] at h
      rw [HTC.out] at h
      exact h
    clear D5

    refine Calls.mono CI.out ?_; rintro e w7 ⟨rfl, ⟨L7, hL7, hs⟩, hf⟩
    have D7 : Hid _ := D70.out.step hf hs
    clear hs hf CI D70

    have HR : Hid (qis L7 = r) := hL7
    clear hL7 HY4 IHC
    obtain ⟨c0, c1, c2, c3⟩ := D7.out.q
    go_wp2_with fail
    refine Calls.mono (CC.out _ D7.out.ir) ?_; rintro e w8 ⟨rfl, b8⟩
    have D8 : Hid _ := D7.out.grow b8
    clear b8 D7 CC
    cases hB9 : (T.any fun y => y == xk) with
    | false =>
      go_wp2_with fail
      go_ret
      exact ⟨by rw [hB9, TF.out]; rfl, ⟨_, HR.out, D8.out.ws⟩, D8.out.fr⟩
    | true =>
      have CO2 : Hid _ := CO.out _ D8.out.ws.bel
      clear CO
      go_wp2_with fail
      refine Calls.mono CO2.out ?_; rintro e w9 ⟨rfl, b9⟩
      have D9 : Hid _ := D8.out.grow b9
      have CS2 : Hid _ := CS.out _ D9.out.ws.bel
      clear b9 D8 CO2 CS
      go_wp2_with fail
      refine Calls.mono CS2.out ?_; rintro e w10 ⟨rfl, b10⟩
      have D10 : Hid _ := D9.out.grow b10
      clear b10 D9 CS2
      go_wp2_with fail
      go_ret
      exact ⟨by rw [hB9, TT.out]; rfl, ⟨_, HR.out, D10.out.ws⟩, D10.out.fr⟩
  · have htx : (Qt.mk x [a, c]).txt = a.txt ++ ([32, 124, 32] ++ brk (decide (c.x.kind = 3)) c.txt) := by rw [Qt.txt2, if_neg h2]
    rw [htx]
    have CN : Hid (∀ v, Below w0.heap.size w0 v → Calls Tryz.prog 48 #[.int .i64 4] v fun e w' => e = .returned (.string (tbs [32, 124, 32])) ∧ Below v.heap.size v w') := fun v hv =>
      between_any 4 124 rfl v (hB.grow hv) (hX.grow hv)
    have q1 : (x.kind == 1) = false := by rw [beq_eq_false_iff_ne]; omega
    have q2 : (x.kind == 2) = false := by rw [beq_eq_false_iff_ne]; omega
    have q3 : (x.kind == 3) = true := by rw [beq_iff_eq]; omega

    have hba := brk_len (decide (a.x.kind = 3)) a.txt
    have hbc := brk_len (isAO c.x.kind) c.txt
    have hbc2 := brk_len (decide (c.x.kind = 3)) c.txt
    have AN := add_tbq (a.txt) [32, 124, 32] (by simp; omega)
    have AN2 := add_tbq (a.txt ++ [32, 124, 32]) (brk (decide (c.x.kind = 3)) c.txt) (by simp; omega)
    rw [List.append_assoc] at AN2
    have htl : (a.txt ++ ([32, 124, 32] ++ brk (decide (c.x.kind = 3)) c.txt)).length ≤ 7000000000000000000 := by simp; omega
    have HY : Hid (qis L' = a.flat ++ (c.flat ++ r)) := hyl
    have IHA : Hid _ := iha
    have IHC : Hid _ := ihc
    clear iha ihc htx hal hcl hla hba hbc hbc2
    generalize a.txt ++ ([32, 124, 32] ++ brk (decide (c.x.kind = 3)) c.txt) = tx at *
    generalize a.txt ++ [32, 124, 32] = tm at *
    obtain ⟨ta, hta⟩ : ∃ ta, ta = a.txt := ⟨_, rfl⟩
    obtain ⟨tc, htc⟩ : ∃ tc, tc = brk (decide (c.x.kind = 3)) c.txt := ⟨_, rfl⟩
    rw [← hta] at AN
    rw [← htc] at AN2

    obtain ⟨w2, e2⟩ : ∃ w2, w2 = (w.setCell ⟨w0.heap.size, 0, none⟩ (.slice (some ⟨b, o + 4, none⟩) n (cap - 1))).alloc (.cells #[.int .i64 x.kind, .int .i64 x.n, .slice y.ao x.p.length y.cap, .int .i64 x.k] 36) := ⟨_, rfl⟩
    have D2 : Hid (Tw w0 w w2 L' bo T (.int .i64 x.kind) (.int .i64 x.n) (.slice y.ao x.p.length y.cap) (.int .i64 x.k)) := tw_start hL hI hap e2 (fun w' hb' hf' hc' => hmk w' _ _ hb' hf' hc' (fun h1 => by first | rfl | omega) (by omega) (by omega))
    have E2 : Hid _ := e2
    have fz := hL.fz
    have hlt := hL.lt
    clear e2

    have AO := add_tbq [40] tx (by simp; omega)
    have AS := add_tbq ([40] ++ tx) [41] (by simp; omega)
    rw [show tbs [40] = (⟨#[40]⟩ : ByteArray) from rfl] at AO CO
    rw [show tbs [41] = (⟨#[41]⟩ : ByteArray) from rfl] at AS CS
    have TT : Hid (tbs (brk true tx) = tbs (([40] ++ tx) ++ [41])) := rfl
    have TF : Hid (tbs (brk false tx) = tbs tx) := rfl
    generalize tbs (([40] ++ tx) ++ [41]) = t3 at *
    generalize tbs ([40] ++ tx) = t2 at *

    generalize tbs tx = ts at *
    generalize tbs tm = tms at *
    generalize tbs [32, 124, 32] = tps at *
    obtain ⟨tas, htas⟩ : ∃ tas, tas = tbs ta := ⟨_, rfl⟩
    obtain ⟨tcs, htcs⟩ : ∃ tcs, tcs = tbs tc := ⟨_, rfl⟩
    rw [← htas] at AN
    rw [← htcs] at AN2
    have HTA : Hid (tbs (a.txt) = tas) := by show _ = _; rw [htas, hta]
    have HTC : Hid (tbs (brk (decide (c.x.kind = 3)) c.txt) = tcs) := by show _ = _; rw [htcs, htc]
    clear hyl hk h2 hta htc htas htcs

    clear hmk hL hI hap hq hbn hlf hyi hB hX
    generalize x.p.length = xl at *
    generalize x.kind = xk at *
    generalize x.n = xn at *
    generalize x.k = xK at *
    go_enter Tryz.func27, Tryz.ntmps27
    obtain ⟨d0, d1, d2, d3⟩ := D2.out.q
    have D2w : Hid _ := D2
    go_wp2_with (first | rw [← E2.out])
    clear d0 d1 d2 d3
    clear D2w

    have D40 : Hid _ := D2.out
    have CI : Hid (Calls Tryz.prog 27 #[.pointer (some ⟨w0.heap.size, 0, none⟩), .slice none 0 0] w2 fun e w' => e = .returned (.string tas) ∧ (∃ L', qis L' = c.flat ++ r ∧ Ws w0 w' L') ∧ Fr (fun k => k ≠ w0.heap.size) w2 w') := by
      have h := IHA.out L' (c.flat ++ r) w2 none 0 0 [] rfl HY.out D40.out.ws (⟨by simp, fun h => by simp at h⟩) (fun _ _ e => by cases e)
      unfold Trs at h
      rw [show brk (([] : List Int).any fun y => y == a.x.kind) a.txt = a.txt from rfl, HTA.out] at h
      exact h
    clear D2

    refine Calls.mono CI.out ?_; rintro e w4 ⟨rfl, ⟨L4, hL4, hs⟩, hf⟩
    have D4 : Hid _ := D40.out.step hf hs
    clear hs hf CI D40

    have HY4 : Hid (qis L4 = c.flat ++ r) := hL4
    clear hL4 HY IHA E2 c0 c1 c2 c3 cw
    have CN2 : Hid _ := CN.out _ D4.out.ws.bel
    go_wp2_with fail
    refine Calls.mono CN2.out ?_; rintro e w5 ⟨rfl, b5⟩
    have D5 : Hid _ := D4.out.grow b5
    clear b5 CN CN2 D4
    go_wp2_with fail

    have D70 : Hid _ := (D5.out.grow (al_below _ (.cells #[.int .i64 3] 3)))
    have CI : Hid (Calls Tryz.prog 27 #[.pointer (some ⟨w0.heap.size, 0, none⟩), .slice (some ⟨w5.heap.size, 0, none⟩) 1 1] (w5.alloc (.cells #[.int .i64 3] 3)) fun e w' => e = .returned (.string tcs) ∧ (∃ L', qis L' = r ∧ Ws w0 w' L') ∧ Fr (fun k => k ≠ w0.heap.size) (w5.alloc (.cells #[.int .i64 3] 3)) w') := by
      have h := IHC.out L4 (r) (w5.alloc (.cells #[.int .i64 3] 3)) (some ⟨w5.heap.size, 0, none⟩) 1 1 [3] rfl HY4.out D70.out.ws (irw1 w5 3 _) (fun b o e _ => by cases e; have := D5.out.ws.lt; omega)
      unfold Trs at h; rw [any3] at h
      rw [HTC.out] at h
      exact h
    clear D5

    refine Calls.mono CI.out ?_; rintro e w7 ⟨rfl, ⟨L7, hL7, hs⟩, hf⟩
    have D7 : Hid _ := D70.out.step hf hs
    clear hs hf CI D70

    have HR : Hid (qis L7 = r) := hL7
    clear hL7 HY4 IHC
    obtain ⟨c0, c1, c2, c3⟩ := D7.out.q
    go_wp2_with fail
    refine Calls.mono (CC.out _ D7.out.ir) ?_; rintro e w8 ⟨rfl, b8⟩
    have D8 : Hid _ := D7.out.grow b8
    clear b8 D7 CC
    cases hB9 : (T.any fun y => y == xk) with
    | false =>
      go_wp2_with fail
      go_ret
      exact ⟨by rw [hB9, TF.out]; rfl, ⟨_, HR.out, D8.out.ws⟩, D8.out.fr⟩
    | true =>
      have CO2 : Hid _ := CO.out _ D8.out.ws.bel
      clear CO
      go_wp2_with fail
      refine Calls.mono CO2.out ?_; rintro e w9 ⟨rfl, b9⟩
      have D9 : Hid _ := D8.out.grow b9
      have CS2 : Hid _ := CS.out _ D9.out.ws.bel
      clear b9 D8 CO2 CS
      go_wp2_with fail
      refine Calls.mono CS2.out ?_; rintro e w10 ⟨rfl, b10⟩
      have D10 : Hid _ := D9.out.grow b10
      clear b10 D9 CS2
      go_wp2_with fail
      go_ret
      exact ⟨by rw [hB9, TT.out]; rfl, ⟨_, HR.out, D10.out.ws⟩, D10.out.fr⟩

theorem tree_any (w0 : World) (hB : TabB w0) (hX : TabX w0) (t : Qt) (ht : t.rg) : ∀ (L : List Qv) (r : List Qn) (w : World) (bo : Option Addr) (bn bc : Nat) (T : List Int), T.length = bn → qis L = t.flat ++ r → Ws w0 w L → Irw w bo T → (∀ b o, bo = some ⟨b, o, none⟩ → 1 ≤ T.length → b ≠ w0.heap.size) →
    Calls Tryz.prog 27 #[.pointer (some ⟨w0.heap.size, 0, none⟩), .slice bo bn bc] w fun e w' => Trs w0 w w' (brk (T.any fun y => y == t.x.kind) t.txt) r e := by
  refine Qt.rind (P := fun t => ∀ (L : List Qv) (r : List Qn) (w : World) (bo : Option Addr) (bn bc : Nat) (T : List Int), T.length = bn → qis L = t.flat ++ r → Ws w0 w L → Irw w bo T → (∀ b o, bo = some ⟨b, o, none⟩ → 1 ≤ T.length → b ≠ w0.heap.size) →
    Calls Tryz.prog 27 #[.pointer (some ⟨w0.heap.size, 0, none⟩), .slice bo bn bc] w fun e w' => Trs w0 w w' (brk (T.any fun y => y == t.x.kind) t.txt) r e) ?_ ?_ ?_ t ht
  · intro x hk hr
    show ∀ (L : List Qv) (r : List Qn) (w : World) (bo : Option Addr) (bn bc : Nat) (T : List Int), T.length = bn → qis L = (Qt.mk x []).flat ++ r → Ws w0 w L → Irw w bo T → (∀ b o, bo = some ⟨b, o, none⟩ → 1 ≤ T.length → b ≠ w0.heap.size) →
    Calls Tryz.prog 27 #[.pointer (some ⟨w0.heap.size, 0, none⟩), .slice bo bn bc] w fun e w' => Trs w0 w w' (brk (T.any fun y => y == x.kind) (Qt.mk x []).txt) r e
    rw [Qt.flat0]
    exact tree0 w0 hB hX x hk hr
  · intro x a hk hr hra ih
    show ∀ (L : List Qv) (r : List Qn) (w : World) (bo : Option Addr) (bn bc : Nat) (T : List Int), T.length = bn → qis L = (Qt.mk x [a]).flat ++ r → Ws w0 w L → Irw w bo T → (∀ b o, bo = some ⟨b, o, none⟩ → 1 ≤ T.length → b ≠ w0.heap.size) →
    Calls Tryz.prog 27 #[.pointer (some ⟨w0.heap.size, 0, none⟩), .slice bo bn bc] w fun e w' => Trs w0 w w' (brk (T.any fun y => y == x.kind) (Qt.mk x [a]).txt) r e
    rw [Qt.flat1]
    exact tree1 w0 hB hX x a hk hr hra ih
  · intro x a c hk hr hra hrc iha ihc
    show ∀ (L : List Qv) (r : List Qn) (w : World) (bo : Option Addr) (bn bc : Nat) (T : List Int), T.length = bn → qis L = (Qt.mk x [a, c]).flat ++ r → Ws w0 w L → Irw w bo T → (∀ b o, bo = some ⟨b, o, none⟩ → 1 ≤ T.length → b ≠ w0.heap.size) →
    Calls Tryz.prog 27 #[.pointer (some ⟨w0.heap.size, 0, none⟩), .slice bo bn bc] w fun e w' => Trs w0 w w' (brk (T.any fun y => y == x.kind) (Qt.mk x [a, c]).txt) r e
    rw [Qt.flat2]
    exact tree2 w0 hB hX x a c hk hra hrc iha ihc

end Cls

end Go.Proofs.YtbnnobeahliffaaGreatDoor

set_option linter.unusedVariables false
namespace Go.Proofs.YtbnnobeahliffaaGreatDoor
open Go.RowKit
namespace Cls

theorem sml_nil (P : Nat → Nat → Bool) (n : Nat) (K : Int) (Q : Nat → Nat → Bool) : sml P n K Q 0 0 = decide (n = 0 ∧ K = 0) := by
  unfold sml eqr
  by_cases h : n = 0
  · subst h
    by_cases h2 : K = 0
    · subst h2; rfl
    · simp [h2]
  · simp [h]

set_option maxRecDepth 100000 in
set_option maxHeartbeats 4000000 in
theorem qwrong_any (x : Qv) (w : World) (hx : x.ok w) :
    Calls Tryz.prog 26 #[x.val] w fun e w' => e = .returned (.bool (!rgn x.i)) ∧ Below w.heap.size w w' := by
  have CS : Hid (∀ v : World, Below w.heap.size w v → Calls Tryz.prog 46 #[.agg #[.slice x.ao x.i.p.length x.cap, .int .i64 x.i.k], .agg #[.slice none 0 0, .int .i64 0]] v fun e w' => e = .returned (.bool (sml (at' x.i.p) x.i.p.length x.i.k (fun _ _ => false) 0 0)) ∧ Below v.heap.size v w') := fun v hv => same_any _ _ _ _ _ _ _ _ _ _ v (hx.grow hv) ⟨by omega, fun h => by omega⟩
  have CR : Hid (∀ v : World, Below w.heap.size w v → Calls Tryz.prog 45 #[.agg #[.slice x.ao x.i.p.length x.cap, .int .i64 x.i.k]] v fun e w' => e = .returned (.bool (rgt (at' x.i.p) x.i.p.length x.i.k)) ∧ Below v.heap.size v w') := fun v hv => right_any _ _ _ _ _ v (hx.grow hv)
  rw [sml_nil] at CS
  unfold Qv.val
  have hrg : rgn x.i = (decide ((x.i.kind = 5 ∨ x.i.n = 0) ∧ 0 ≤ x.i.n ∧ x.i.n ≤ 1000000) && (if x.i.kind = 1 then rgt (at' x.i.p) x.i.p.length x.i.k else decide (x.i.p.length = 0 ∧ x.i.k = 0))) := rfl
  generalize rgn x.i = res at *
  generalize rgt (at' x.i.p) x.i.p.length x.i.k = rr at *
  generalize hbl : decide (x.i.p.length = 0 ∧ x.i.k = 0) = bl at *
  clear hbl
  generalize x.i.kind = xk at *
  generalize x.i.n = xn at *
  generalize x.i.k = xK at *
  generalize x.cap = xc at *
  generalize x.i.p.length = xl at *
  generalize x.ao = xo at *
  have BB : Hid (Below w.heap.size w (w.alloc (.cells #[.int .i64 xk, .int .i64 xn, .slice xo xl xc, .int .i64 xK] 36))) := al_below _ _
  clear hx
  by_cases hk : xk = 1
  · have qk : (xk == 1) = true := by simpa using hk
    by_cases hN : xn = 0
    · have qN : (xn != 0) = false := by simpa using hN
      have HR : Hid (res = rr) := by show _ = _; rw [hrg, if_pos hk, decide_eq_true ⟨.inr hN, by omega, by omega⟩]; rfl
      clear hk hN hrg
      go_enter Tryz.func26, Tryz.ntmps26
      go_wp2_with fail
      refine Calls.mono (CR.out _ BB.out) ?_; rintro e w2 ⟨rfl, b2⟩
      have B2 : Hid (Below w.heap.size w w2) := bgrow' BB.out b2
      clear b2 CS CR BB
      go_wp2_with fail
      go_ret
      exact ⟨by rw [HR.out]; rfl, B2.out⟩
    · have qN : (xn != 0) = true := by simpa using hN
      have HR : Hid (res = false) := by show _ = _; rw [hrg, decide_eq_false (fun e => by omega)]; rfl
      clear hk hN hrg
      go_enter Tryz.func26, Tryz.ntmps26
      go_wp2_with fail
      go_ret
      exact ⟨by rw [HR.out]; rfl, BB.out⟩
  · have qk : (xk == 1) = false := by simpa using hk
    rw [if_neg hk] at hrg
    cases bl with
    | false =>
      have HR : Hid (res = false) := by show _ = _; rw [hrg, Bool.and_false]
      clear hk hrg
      go_enter Tryz.func26, Tryz.ntmps26
      go_wp2_with fail
      refine Calls.mono (CS.out _ BB.out) ?_; rintro e w2 ⟨rfl, b2⟩
      have B2 : Hid (Below w.heap.size w w2) := bgrow' BB.out b2
      clear b2 CS CR BB
      go_wp2_with fail
      go_ret
      exact ⟨by rw [HR.out]; rfl, B2.out⟩
    | true =>
      rw [Bool.and_true] at hrg
      have hb0 : w.heap.size < (w.alloc (.cells #[.int .i64 xk, .int .i64 xn, .slice xo xl xc, .int .i64 xK] 36)).heap.size := by rw [al_size]; omega
      have CL : Hid (∀ w2 : World, Below (w.alloc (.cells #[.int .i64 xk, .int .i64 xn, .slice xo xl xc, .int .i64 xK] 36)).heap.size (w.alloc (.cells #[.int .i64 xk, .int .i64 xn, .slice xo xl xc, .int .i64 xK] 36)) w2 → w2.cell? ⟨w.heap.size, 0, none⟩ = some (.int .i64 xk) ∧ w2.cell? ⟨w.heap.size, 1, none⟩ = some (.int .i64 xn)) := fun w2 b2 => by
        have hb : (w.alloc (.cells #[.int .i64 xk, .int .i64 xn, .slice xo xl xc, .int .i64 xK] 36)).heap[w.heap.size]? = some (.cells #[.int .i64 xk, .int .i64 xn, .slice xo xl xc, .int .i64 xK] 36) := World.alloc_heap_new w _
        refine ⟨(b2.cell (p := ⟨w.heap.size, 0, none⟩) hb0).trans ?_, (b2.cell (p := ⟨w.heap.size, 1, none⟩) hb0).trans ?_⟩
        · unfold World.cell?; rw [hb]; rfl
        · unfold World.cell?; rw [hb]; rfl
      clear hb0
      by_cases h5 : xk = 5
      · have q5 : (xk == 5) = true := by simpa using h5
        by_cases h0 : xn < 0
        · have HR : Hid (res = false) := by show _ = _; rw [hrg, decide_eq_false (fun e => by omega)]
          clear hk hrg h5
          go_enter Tryz.func26, Tryz.ntmps26
          go_wp2_with fail
          refine Calls.mono (CS.out _ BB.out) ?_; rintro e w2 ⟨rfl, b2⟩
          have B2 : Hid (Below w.heap.size w w2) := bgrow' BB.out b2
          obtain ⟨c0, c1⟩ := CL.out w2 b2
          clear b2 CS CR BB CL
          go_wp2_with fail
          go_ret
          exact ⟨by rw [HR.out]; rfl, B2.out⟩
        · by_cases h1 : 1000000 < xn
          · have HR : Hid (res = false) := by show _ = _; rw [hrg, decide_eq_false (fun e => by omega)]
            clear hk hrg h5
            go_enter Tryz.func26, Tryz.ntmps26
            go_wp2_with fail
            refine Calls.mono (CS.out _ BB.out) ?_; rintro e w2 ⟨rfl, b2⟩
            have B2 : Hid (Below w.heap.size w w2) := bgrow' BB.out b2
            obtain ⟨c0, c1⟩ := CL.out w2 b2
            clear b2 CS CR BB CL
            go_wp2_with fail
            go_ret
            exact ⟨by rw [HR.out]; rfl, B2.out⟩
          · have HR : Hid (res = true) := by show _ = _; rw [hrg, decide_eq_true ⟨.inl h5, by omega, by omega⟩]
            clear hk hrg h5
            go_enter Tryz.func26, Tryz.ntmps26
            go_wp2_with fail
            refine Calls.mono (CS.out _ BB.out) ?_; rintro e w2 ⟨rfl, b2⟩
            have B2 : Hid (Below w.heap.size w w2) := bgrow' BB.out b2
            obtain ⟨c0, c1⟩ := CL.out w2 b2
            clear b2 CS CR BB CL
            go_wp2_with fail
            go_ret
            exact ⟨by rw [HR.out]; show Ending.returned (.bool (decide (xn < 0) || decide (1000000 < xn))) = _; rw [decide_eq_false (by omega), decide_eq_false (by omega)]; rfl, B2.out⟩
      · have q5 : (xk == 5) = false := by simpa using h5
        by_cases hN : xn = 0
        · have qN : (xn != 0) = false := by simpa using hN
          have HR : Hid (res = true) := by show _ = _; rw [hrg, decide_eq_true ⟨.inr hN, by omega, by omega⟩]
          clear hk hrg h5 hN
          go_enter Tryz.func26, Tryz.ntmps26
          go_wp2_with fail
          refine Calls.mono (CS.out _ BB.out) ?_; rintro e w2 ⟨rfl, b2⟩
          have B2 : Hid (Below w.heap.size w w2) := bgrow' BB.out b2
          obtain ⟨c0, c1⟩ := CL.out w2 b2
          clear b2 CS CR BB CL
          go_wp2_with fail
          go_ret
          exact ⟨by rw [HR.out]; rfl, B2.out⟩
        · have qN : (xn != 0) = true := by simpa using hN
          have HR : Hid (res = false) := by show _ = _; rw [hrg, decide_eq_false (fun e => by omega)]
          clear hk hrg h5 hN
          go_enter Tryz.func26, Tryz.ntmps26
          go_wp2_with fail
          refine Calls.mono (CS.out _ BB.out) ?_; rintro e w2 ⟨rfl, b2⟩
          have B2 : Hid (Below w.heap.size w w2) := bgrow' BB.out b2
          obtain ⟨c0, c1⟩ := CL.out w2 b2
          clear b2 CS CR BB CL
          go_wp2_with fail
          go_ret
          exact ⟨by rw [HR.out]; rfl, B2.out⟩

set_option maxRecDepth 100000 in
set_option maxHeartbeats 4000000 in
theorem qindex_any (n cap : Nat) (so : Option Addr) (L : List Qv) (hn : L.length = n) (w : World) (hL : QR w so L) :
    Calls Tryz.prog 44 #[.slice so n cap, .func (.func 26) #[] #[]] w fun e w' => (∃ r : Int, e = .returned (.int .i64 r) ∧ decide (0 ≤ r) = !(qis L).all rgn) ∧ Below w.heap.size w w' := by
  have hn2 : n ≤ 4398046511104 := by have := hL.small; omega
  have HL : Hid _ := hL
  have HN : Hid (L.length = n) := hn
  have HA : Hid (∀ i, (h : i < L.length) → rgn L[i].i = false → (qis L).all rgn = false) := fun i h hf => by
    rw [List.all_eq_false]
    exact ⟨L[i].i, by unfold qis; exact List.mem_map_of_mem (List.getElem_mem h), by rw [hf]; decide⟩
  have HB0 : Hid ((∀ i, (h : i < L.length) → rgn L[i].i = true) → (qis L).all rgn = true) := fun h => by
    rw [List.all_eq_true]
    intro x hx
    unfold qis at hx
    obtain ⟨y, hy, rfl⟩ := List.mem_map.1 hx
    obtain ⟨i, hi, rfl⟩ := List.mem_iff_getElem.1 hy
    exact h i hi
  generalize (qis L).all rgn = res at *
  clear hL hn
  go_enter Tryz.func44, Tryz.ntmps44
  go_wp2_with fail
  go_loopw [8] (fun vi wr => Below w.heap.size w wr ∧ ∃ i : Nat, i ≤ n ∧ vi = .int .i64 (i : Int) ∧ ∀ t, t < i → ∀ h : t < L.length, rgn L[t].i = true) (fun vi _ => n - (intOf vi).toNat)
  case atStart => exact ⟨Below.refl _ _, 0, Nat.zero_le _, rfl, fun t ht => by omega⟩
  case round =>
    obtain ⟨hbel, i, hi, rfl, hall⟩ := hrel
    have HB : Hid _ := hbel
    have HL2 : Hid _ := hall
    clear hbel hall
    by_cases hin : i < n
    · have hiI : (i : Int) < (n : Int) := by omega
      have h1 : i < L.length := by rw [HN.out]; exact hin
      obtain ⟨b, o, rfl, hb, hC⟩ := (HL.out.grow HB.out).lies (by omega)
      obtain ⟨c0, c1, c2, c3⟩ := hC i h1
      have hok := HL.out.ok L[i] (List.getElem_mem h1)
      have hA := HA.out i h1
      have hS : rgn L[i].i = true → ∀ t, t < i + 1 → ∀ h : t < L.length, rgn L[t].i = true := fun e t ht h => by
        by_cases e2 : t = i
        · subst e2; exact e
        · exact HL2.out t (by omega) h
      generalize L[i] = x at *
      have CX : Hid (Calls Tryz.prog 26 #[.agg #[.int .i64 x.i.kind, .int .i64 x.i.n, .slice x.ao x.i.p.length x.cap, .int .i64 x.i.k]] wr fun e w' => e = .returned (.bool (!rgn x.i)) ∧ Below wr.heap.size wr w') := qwrong_any x wr (hok.grow HB.out)
      have HS : Hid _ := hS
      have HX : Hid _ := hA
      clear hC hok hS hA
      generalize x.i.kind = xk at *
      generalize x.i.n = xn at *
      generalize x.i.p.length = xl at *
      generalize x.i.k = xK at *
      generalize x.ao = xo at *
      generalize x.cap = xc at *
      cases hr : rgn x.i with
      | false =>
        rw [hr] at CX
        have HF : Hid (res = false) := HX.out hr
        clear HX HS hr
        go_wp2_with fail
        refine Calls.mono CX.out ?_; rintro e w2 ⟨rfl, b2⟩
        have B2 : Hid (Below w.heap.size w w2) := bgrow' HB.out b2
        clear b2 CX HB c0 c1 c2 c3
        go_wp2_with fail
        go_ret
        exact ⟨⟨_, rfl, by rw [HF.out, decide_eq_true (by omega)]; rfl⟩, B2.out⟩
      | true =>
        rw [hr] at CX
        have HT : Hid _ := HS.out hr
        clear HX HS hr
        go_wp2_with fail
        refine Calls.mono CX.out ?_; rintro e w2 ⟨rfl, b2⟩
        have B2 : Hid (Below w.heap.size w w2) := bgrow' HB.out b2
        clear b2 CX HB c0 c1 c2 c3
        go_wp2_with fail
        go_roundw
        case rel => exact ⟨B2.out, i + 1, by omega, by go_num, HT.out⟩
        case measure => simp [intOf]; omega
    · obtain rfl : i = n := by omega
      have HT : Hid (res = true) := HB0.out (fun i hi => HL2.out i (by rw [← HN.out]; exact hi) hi)
      go_wp2_with fail
      go_ret
      exact ⟨⟨_, rfl, by rw [HT.out]; rfl⟩, HB.out⟩

set_option maxRecDepth 100000 in
set_option maxHeartbeats 4000000 in
theorem qcontains_any (n cap : Nat) (so : Option Addr) (L : List Qv) (hn : L.length = n) (w : World) (hL : QR w so L) :
    Calls Tryz.prog 25 #[.slice so n cap, .func (.func 26) #[] #[]] w fun e w' => e = .returned (.bool (!(qis L).all rgn)) ∧ Below w.heap.size w w' := by
  have CE : Hid _ := qindex_any n cap so L hn w hL
  generalize (!(qis L).all rgn) = res at *
  clear hL hn
  go_enter Tryz.func25, Tryz.ntmps25
  go_wp2_with fail
  refine Calls.mono CE.out ?_; rintro e w2 ⟨⟨r, rfl, hr⟩, b2⟩
  have B2 : Hid (Below w.heap.size w w2) := b2
  have HR : Hid _ := hr
  clear b2 CE hr
  go_wp2_with fail
  go_ret
  exact ⟨by rw [← HR.out]; rfl, B2.out⟩

end Cls

end Go.Proofs.YtbnnobeahliffaaGreatDoor

set_option linter.unusedVariables false
namespace Go.Proofs.YtbnnobeahliffaaGreatDoor
open Go.RowKit
namespace Cls

set_option maxRecDepth 100000 in
set_option maxHeartbeats 4000000 in
theorem qright_any (n cap : Nat) (so : Option Addr) (L : List Qv) (hn : L.length = n) (w : World) (hL : QR w so L) :
    Calls Tryz.prog 9 #[.slice so n cap] w fun e w' => e = .returned (.bool (qrg (qis L))) ∧ Below w.heap.size w w' := by
  have hn2 : n ≤ 4398046511104 := by have := hL.small; omega
  have hq : qrg (qis L) = ((qis L).all rgn && decide (n ≤ 64 ∧ 1 ≤ qdep (qis L) ∧ qdep (qis L) ≤ 16)) := by unfold qrg; rw [qis_len, hn]
  by_cases h64 : 64 < n
  · have hI : (64 : Int) < (n : Int) := by omega
    have HQ : Hid (qrg (qis L) = false) := by show _ = _; rw [hq, decide_eq_false (fun e => by omega), Bool.and_false]
    clear hq hL
    go_enter Tryz.func9, Tryz.ntmps9
    go_wp2_with fail
    go_ret
    exact ⟨by rw [HQ.out]; rfl, Below.refl _ _⟩
  · have hI : ¬ (64 : Int) < (n : Int) := by omega
    have CD : Hid _ := qdepth_any n cap so L hn (by omega) w hL
    have CC : Hid (∀ v : World, Below w.heap.size w v → Calls Tryz.prog 25 #[.slice so n cap, .func (.func 26) #[] #[]] v fun e w' => e = .returned (.bool (!(qis L).all rgn)) ∧ Below v.heap.size v w') := fun v hv => qcontains_any n cap so L hn v (hL.grow hv)
    have hdl : qdep (qis L) ≤ 64 := by
      rcases Nat.eq_zero_or_pos (qdep (qis L)) with e | e
      · omega
      · obtain ⟨t, ht, hl, _⟩ := qdep_tree e
        have h1 := dpl_tree t ht []
        rw [List.append_nil, ← hl] at h1
        have h2 := (dpl_le _ _ h1).2 t.dep (List.mem_cons_self ..)
        rw [hl, qdep_flat t ht]
        rw [qis_len, hn] at h2
        omega
    generalize (qis L).all rgn = al at *
    generalize qdep (qis L) = d at *
    generalize qrg (qis L) = res at *
    have HQ : Hid _ := hq
    clear hL hq hn
    by_cases h1 : 1 ≤ d
    · have h1I : (1 : Int) ≤ (d : Int) := by omega
      by_cases h16 : d ≤ 16
      · have h16I : (d : Int) ≤ (16 : Int) := by omega
        go_enter Tryz.func9, Tryz.ntmps9
        go_wp2_with fail
        refine Calls.mono CD.out ?_; rintro e w2 ⟨rfl, b2⟩
        have B2 : Hid (Below w.heap.size w w2) := b2
        clear b2 CD
        go_wp2_with fail
        refine Calls.mono (CC.out w2 B2.out) ?_; rintro e w3 ⟨rfl, b3⟩
        have B3 : Hid (Below w.heap.size w w3) := bgrow' B2.out b3
        clear b3 B2 CC
        go_wp2_with fail
        go_ret
        exact ⟨by rw [HQ.out, decide_eq_true ⟨by omega, h1, h16⟩]; cases al <;> rfl, B3.out⟩
      · have h16I : ¬ (d : Int) ≤ (16 : Int) := by omega
        go_enter Tryz.func9, Tryz.ntmps9
        go_wp2_with fail
        refine Calls.mono CD.out ?_; rintro e w2 ⟨rfl, b2⟩
        have B2 : Hid (Below w.heap.size w w2) := b2
        clear b2 CD CC
        go_wp2_with fail
        go_ret
        exact ⟨by rw [HQ.out, decide_eq_false (fun e => by omega), Bool.and_false]; rfl, B2.out⟩
    · have h1I : ¬ (1 : Int) ≤ (d : Int) := by omega
      go_enter Tryz.func9, Tryz.ntmps9
      go_wp2_with fail
      refine Calls.mono CD.out ?_; rintro e w2 ⟨rfl, b2⟩
      have B2 : Hid (Below w.heap.size w w2) := b2
      clear b2 CD CC
      go_wp2_with fail
      go_ret
      exact ⟨by rw [HQ.out, decide_eq_false (fun e => by omega), Bool.and_false]; rfl, B2.out⟩

end Cls

end Go.Proofs.YtbnnobeahliffaaGreatDoor

set_option linter.unusedVariables false
namespace Go.Proofs.YtbnnobeahliffaaGreatDoor
open Go.RowKit
namespace Cls

theorem ws_new {w : World} {so : Option Addr} {L : List Qv} {cap : Nat} (hc : L.length ≤ cap) (hm : cap ≤ 9223372036854775807) (h : QR w so L) (X : TypeId) : Ws w (w.alloc (.cells #[.slice so L.length cap] X)) L := by
  have hb : (w.alloc (.cells #[.slice so L.length cap] X)).heap[w.heap.size]? = some (.cells #[.slice so L.length cap] X) := World.alloc_heap_new w _
  refine ⟨al_below _ _, ?_, so, cap, ?_, hc, hm, h⟩
  · unfold World.frozen?
    rw [hb]
    simp
  · unfold World.cell?
    rw [hb]
    rfl

set_option maxRecDepth 100000 in
set_option maxHeartbeats 4000000 in
theorem qprint_any (n cap : Nat) (so : Option Addr) (L : List Qv) (hn : L.length = n) (hc : n ≤ cap) (hm : cap ≤ 9223372036854775807) (w : World) (hL : QR w so L) (hB : TabB w) (hX : TabX w) :
    Calls Tryz.prog 11 #[.slice so n cap] w fun e w' => Rdx (qpt (qis L)) e ∧ Below w.heap.size w w' := by
  have CR : Hid _ := qright_any n cap so L hn w hL
  unfold Rdx
  cases hq : qrg (qis L) with
  | false =>
    have HR : Hid (qpt (qis L) = none) := by show _ = _; unfold qpt; rw [if_neg (by rw [hq]; decide)]
    rw [hq] at CR
    generalize qpt (qis L) = r at *
    clear hq hL hB hX
    go_enter Tryz.func11, Tryz.ntmps11
    go_wp2_with fail
    refine Calls.mono CR.out ?_; rintro e w1 ⟨rfl, b1⟩
    have B1 : Hid (Below w.heap.size w w1) := b1
    clear b1 CR
    go_wp2_with fail
    refine bodyPost_ret (results_tmp2 rfl _ _ _) rfl ?_
    exact ⟨by rw [HR.out]; rfl, B1.out⟩
  | true =>
    obtain ⟨t, ht, hl, _, _, hg⟩ := qrg_tree hq
    have HR : Hid (qpt (qis L) = some t.txt) := by show _ = _; rw [hl]; exact qpt_tree ht (by rw [← hl]; exact hq)
    rw [hq] at CR
    have CT : Hid (∀ v : World, Below w.heap.size w v → Calls Tryz.prog 27 #[.pointer (some ⟨v.heap.size, 0, none⟩), .slice none 0 0] (v.alloc (.cells #[.slice so n cap] 61)) fun e w' => e = .returned (.string (tbs t.txt)) ∧ Below v.heap.size v w') := fun v hv => by
      subst hn
      have hs := ws_new hc hm (hL.grow hv) 61
      refine Calls.mono (tree_any v (hB.grow hv) (hX.grow hv) t ⟨ht, hg⟩ L [] _ none 0 0 [] rfl (by rw [List.append_nil]; exact hl) hs ⟨by simp, fun h => by simp at h⟩ (fun _ _ e => by cases e)) ?_
      rintro e w' ⟨he, _, hf⟩
      exact ⟨he, (al_below v _).trans (hf.below (by rw [al_size]; omega) (fun k hk => by omega))⟩
    generalize qpt (qis L) = r at *
    generalize t.txt = tx at *
    clear hq hL hB hX hl hg ht hn hc hm
    go_enter Tryz.func11, Tryz.ntmps11
    go_wp2_with fail
    refine Calls.mono CR.out ?_; rintro e w1 ⟨rfl, b1⟩
    have B1 : Hid (Below w.heap.size w w1) := b1
    have CT2 : Hid _ := CT.out w1 b1
    clear b1 CR CT
    go_wp2_with fail
    refine Calls.mono CT2.out ?_; rintro e w2 ⟨rfl, b2⟩
    have B2 : Hid (Below w.heap.size w w2) := bgrow' B1.out b2
    clear b2 CT2 B1
    go_wp2_with fail
    refine bodyPost_ret (results_tmp2 rfl _ _ _) rfl ?_
    exact ⟨by rw [HR.out]; rfl, B2.out⟩

end Cls

end Go.Proofs.YtbnnobeahliffaaGreatDoor
