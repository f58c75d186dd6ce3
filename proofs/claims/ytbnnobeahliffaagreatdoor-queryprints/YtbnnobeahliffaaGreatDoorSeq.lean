/- A range over a function whose rounds may be run from within rounds of another one (a function that gives some of what another one gives). Nothing of the program. -/
import Derived.Test.YtbnnobeahliffaaGreatDoorRound
import Derived.RangeFuncBound
import Derived.Deep.Draws
namespace Go.Proofs.YtbnnobeahliffaaGreatDoor
open Go.RowKit

/-- The blocks of A are as they were; no block went. -/
structure Fr (A : Nat → Prop) (w w' : World) : Prop where
  os : w'.os = w.os
  tape : w'.tape = w.tape
  output : w'.output = w.output
  size : w.heap.size ≤ w'.heap.size
  block : ∀ k, k < w.heap.size → A k → w'.heap[k]? = w.heap[k]?

namespace Fr
variable {A A' : Nat → Prop} {u v w : World}
theorem refl (A : Nat → Prop) (w : World) : Fr A w w := ⟨rfl, rfl, rfl, Nat.le_refl _, fun _ _ _ => rfl⟩
theorem trans (h : Fr A u v) (k : Fr A v w) : Fr A u w :=
  ⟨k.os.trans h.os, k.tape.trans h.tape, k.output.trans h.output, Nat.le_trans h.size k.size, fun i hi ha => (k.block i (Nat.lt_of_lt_of_le hi h.size) ha).trans (h.block i hi ha)⟩
theorem mono (h : Fr A u v) (hA : ∀ k, k < u.heap.size → A' k → A k) : Fr A' u v := ⟨h.os, h.tape, h.output, h.size, fun k hk ha => h.block k hk (hA k hk ha)⟩
theorem of_below {B : Nat} (h : Below B u v) (hA : ∀ k, k < u.heap.size → A k → k < B) : Fr A u v := ⟨h.os, h.tape, h.output, h.size, fun k hk ha => h.block k (hA k hk ha)⟩
theorem below {B : Nat} (h : Fr A u v) (hB : B ≤ u.heap.size) (hA : ∀ k, k < B → A k) : Below B u v := ⟨h.os, h.tape, h.output, h.size, fun k hk => h.block k (by omega) (hA k hk)⟩
theorem alloc (h : Fr A u v) (o : Obj) : Fr A u (v.alloc o) :=
  h.trans (of_below ((Below.refl v.heap.size v).alloc (Nat.le_refl _) o) (fun _ hk _ => hk))
theorem drew (h : Fr A u v) : Fr A u v.drew := ⟨h.os, h.tape, h.output, h.size, h.block⟩
theorem drewN (h : Fr A u v) (n : Nat) : Fr A u (v.drewN n) := ⟨h.os, h.tape, h.output, h.size, h.block⟩
theorem grown {row : Option Nat} (h : Fr A u v) (hg : v.grownBy w row) (hr : ∀ k, row = some k → ¬ A k) : Fr A u w :=
  h.trans ⟨hg.os, hg.tape, hg.output, hg.size, fun k hk ha => hg.block k hk (fun e => hr k e.symm ha)⟩
theorem setCell (h : Fr A u v) {p : Addr} (hp : ¬ A p.block) (x : Value) : Fr A u (v.setCell p x) :=
  h.trans ⟨rfl, rfl, rfl, (KeepsWalks.setCell v p x).size, fun k _ ha => Below.heap_setCell _ _ _ k (fun e => hp (e ▸ ha))⟩
theorem putObj (h : Fr A u v) {l : Nat} (hl : ¬ A l) (o : Obj) : Fr A u (v.putObj l o) := h.grown (grownBy_putObj' v l o) (fun k e => by cases e; exact hl)
theorem cell (h : Fr A u v) {p : Addr} (hp : A p.block) (hlt : p.block < u.heap.size) : v.cell? p = u.cell? p := World.cell?_of_block (w := u) (h.block p.block hlt hp)
theorem frozen (h : Fr A u v) {p : Addr} (hp : A p.block) (hlt : p.block < u.heap.size) : v.frozen? p = u.frozen? p := World.frozen?_of_block (w := u) (h.block p.block hlt hp)
end Fr

/-- What is said of M (the blocks that are not one's own) abides that blocks of M from B on are turned, and that blocks come. -/
def Abid {β : Type} (B : Nat) (J : β → (Nat → Prop) → World → Prop) : Prop :=
  ∀ s M M' W W', J s M W → Fr (fun k => M k → k < B) W W' → (∀ k, M' k → M k ∨ (W.heap.size ≤ k ∧ k < W'.heap.size)) → J s M' W'

namespace Abid
variable {β : Type} {B : Nat} {J J' : β → (Nat → Prop) → World → Prop}
theorem fewer (h : Abid B J) {s : β} {M M' : Nat → Prop} {W : World} (hj : J s M W) (hM : ∀ k, M' k → M k) : J s M' W := h s M M' W W hj (Fr.refl _ _) (fun k hk => .inl (hM k hk))
theorem grow (h : Abid B J) {s : β} {M : Nat → Prop} {W W' : World} (hj : J s M W) (hb : Below W.heap.size W W') : J s (fun k => M k ∨ (W.heap.size ≤ k ∧ k < W'.heap.size)) W' := h s M _ W W' hj (Fr.of_below hb (fun _ hk _ => hk)) (fun _ hk => hk)
theorem put (h : Abid B J) {s : β} {M : Nat → Prop} {W : World} {l : Nat} (o : Obj) (hj : J s M W) (hl : M l) (hB : B ≤ l) : J s M (W.putObj l o) :=
  h s M M W _ hj ((Fr.refl _ _).putObj (fun hh => by have := hh hl; omega) o) (fun _ hk => .inl hk)
theorem and (h : Abid B J) (h' : Abid B J') : Abid B (fun s M W => J s M W ∧ J' s M W) := fun s M M' W W' hj hf hm => ⟨h s M M' W W' hj.1 hf hm, h' s M M' W W' hj.2 hf hm⟩
theorem pure (p : β → Prop) : Abid B (fun s _ _ => p s) := fun _ _ _ _ _ hj _ _ => hj
theorem below {n : Nat} {w : World} (hn : n ≤ w.heap.size) (hB : n ≤ B) : Abid B (fun (_ : β) _ W => Below n w W) := fun _ _ _ W _ hj hf _ => hj.trans (hf.below (Nat.le_trans hn hj.size) (fun k hk _ => by omega))
theorem mono {B' : Nat} (h : Abid B J) (hB : B ≤ B') : Abid B' J := fun s M M' W W' hj hf hm => h s M M' W W' hj (hf.mono (fun k _ hk hM => by have := hk hM; omega)) hm
/-- A block that is one's own. -/
theorem own (b : Nat) (f : β → World → Prop) (hb : ∀ s W W', f s W → W'.heap[b]? = W.heap[b]? → f s W') (hlt : ∀ s W, f s W → b < W.heap.size) : Abid B (fun s M W => f s W ∧ ¬ M b) := fun s M M' W W' hj hf hm =>
  ⟨hb s W W' hj.1 (hf.block b (hlt s W hj.1) (fun h => absurd h hj.2)), fun h => (hm b h).elim hj.2 (fun h => by have := hlt s W hj.1; omega)⟩
end Abid

theorem RoundIn.anyN {n m : Nat} {P : Program} {l : Nat} {f : FuncId} {tmps : Array Value} {assign body : Code} {w : World} {R : Ending → World → Prop} (h : RoundIn Fence.wide n P l f tmps assign body w R) : RoundIn Fence.wide m P l f tmps assign body w R :=
  ⟨h.1, fun c cs _ => h.2 c cs (room_wide _)⟩

theorem RoundIn.within {n m l' : Nat} {P : Program} {l : Nat} {f : FuncId} {tmps : Array Value} {assign body : Code} {w : World} {R : Ending → World → Prop} (h : RoundIn Fence.wide n P l f tmps assign body w R) : RoundIn (Fence.wide.inRound l') m P l f tmps assign body w R :=
  RoundIn.anyN h

/-- What a function that gives the things of X one by one (from memory in the blocks A, which the rounds keep) hands over: all of them, or some, a round having said 'no more'. -/
def SeqM {α : Type} (P : Program) (g : Nat) (lb : Array Value) (encs : α → Array Value) (A : Nat → Prop) (X : List α) (w : World) : Prop :=
  ∀ (l : Nat) (J Jx : List α → (Nat → Prop) → World → Prop) (W : World), Below w.heap.size w W → Abid W.heap.size J → Abid W.heap.size Jx →
    (∀ pre M x W1, J pre M W1 → (∀ k, M k → k < W1.heap.size) → (pre ++ [x]) <+: X → YieldAt Fence.wide 7 P l (encs x) W1 fun e W' =>
      Fr M W1 W' ∧ ((e = .returned (.bool true) ∧ J (pre ++ [x]) M W') ∨ (e = .returned (.bool false) ∧ Jx (pre ++ [x]) M W'))) →
    J [] A W →
    Calls P g (#[.func (.yield l) #[] #[]] ++ lb) W fun e W' => (∃ v, e = .returned v) ∧ (J X A W' ∨ (∃ pre, pre <+: X ∧ Jx pre A W'))

theorem SeqM.later {α : Type} {P : Program} {g : Nat} {lb : Array Value} {encs : α → Array Value} {A : Nat → Prop} {X : List α} {w w' : World} (h : SeqM P g lb encs A X w) (hb : Below w.heap.size w w') : SeqM P g lb encs A X w' :=
  fun l J Jx W hW => h l J Jx W (hb.trans (hW.mono hb.size))

/-- An operation that is no deferred call is carried out in a round as anywhere. -/
@[go_sem] theorem semAt_in (l : Nat) (ρ : Operand → Value) (o : Oper) (h : ∀ c, o.op ≠ .defer c) : Oper.semAt (some l) ρ o = execOp ρ o := Oper.semAt_some l ρ o h

/-- How a round's body may be left. -/
def postM {α : Type} (M : Nat → Prop) (I : List α → (Nat → Prop) → World → Prop) (Ix : Code → List α → (Nat → Prop) → World → Prop) (xs : List α) (W : World) : Exit → Act → World → Prop
  | .normal, _, W' => Fr M W W' ∧ I xs M W'
  | .ret, _, W' => Fr M W W' ∧ Ix .ret xs M W'
  | .exit id, _, W' => Fr M W W' ∧ Ix (.exit id) xs M W'
  | .goto t, _, W' => Fr M W W' ∧ Ix (.goto t) xs M W'
  | .panic _, _, _ => False
  | .outgrown, _, _ => False

theorem postM_in {α : Type} {M : Nat → Prop} {I : List α → (Nat → Prop) → World → Prop} {Ix : Code → List α → (Nat → Prop) → World → Prop} {xs : List α} {W : World} : ¬ LetsOut (postM M I Ix xs W) := fun h => by
  obtain ⟨_, _, h⟩ := h
  exact h

/-- The statement 'for .. := range g { .. }'. -/
theorem wp_seq {α : Type} {P : Program} {g : Operand} {ps : Array Tmp} {assign body : Code} {Q : Exit → Act → World → Prop} {a : Act} {w : World}
    {gf : Nat} {lb : Array Value} (hg : a.eval g = .func (.func gf) #[] lb) (eg : ∀ args w, (callFunc gf args).run P w = .ok (.enter gf args) w)
    {encs : α → Array Value} {A : Nat → Prop} {X : List α} (hseq : SeqM P gf lb encs A X w) (hps : ∀ x, (encs x).size = ps.size) (hA : ∀ k, A k → k < w.heap.size)
    (I : List α → (Nat → Prop) → World → Prop) (Ix : Code → List α → (Nat → Prop) → World → Prop) (hI : Abid w.heap.size I) (hIx : ∀ c, Abid w.heap.size (Ix c)) (h0 : I [] A w) (a₁ : α → Act)
    (hassign : ∀ (l : Nat) (x : α) (W : World) (K : Act → World → Prop), K (a₁ x) W →
      assign.wpIn (Fence.wide.inRound l) 7 P (Exit.then K (fun _ _ _ => False)) { tmps := (ps.zip (encs x)).foldl (fun t (p, v) => t.setIfInBounds p v) a.tmps, defers := [] } W)
    (hbody : ∀ (l : Nat) (pre : List α) (M : Nat → Prop) (x : α) (W : World), I pre M W → (∀ k, M k → k < W.heap.size) → (pre ++ [x]) <+: X → body.wpIn (Fence.wide.inRound l) 7 P (postM M I Ix (pre ++ [x]) W) (a₁ x) W)
    (hdone : ∀ (D : Nat) (W : World), w.heap.size ≤ D → I X (fun k => A k ∨ k = D) W → W.heap[D]? = some (.deferred (some [])) → Q .normal { a with defers := { target := .collected D, args := #[] } :: a.defers } W)
    (hstop : ∀ (D : Nat) (c : Code) (pre : List α) (W : World), w.heap.size ≤ D → pre <+: X → Ix c pre (fun k => A k ∨ k = D) W → W.heap[D]? = some (.deferred (some [])) → c.wpIn Fence.wide 9 P Q { a with defers := { target := .collected D, args := #[] } :: a.defers } W) :
    (Code.rangeFunc g ps assign body).wpIn Fence.wide 9 P Q a w := by
  refine wpIn_rangeFunc fun fn _ => ?_
  obtain ⟨B, hB⟩ : ∃ B, w.heap.size = B := ⟨_, rfl⟩
  rw [hB] at hA hI hIx hdone hstop
  let rc : LoopState → Option Code → Obj := fun st pe => .loop { state := st, pending := pe, fn, tmps := a.tmps, params := ps, assign, body, defers := B }
  -- the two blocks that are laid
  obtain ⟨W1, hW1⟩ : ∃ W1, (w.alloc (.deferred (some []))).alloc (rc .ready none) = W1 := ⟨_, rfl⟩
  have sz1 : W1.heap.size = B + 2 := by rw [← hW1, World.size_alloc, World.size_alloc, hB]
  have r1 : W1.heap[B + 1]? = some (rc .ready none) := by
    have h := World.alloc_heap_new (w.alloc (.deferred (some []))) (rc .ready none)
    rw [World.size_alloc, hB, hW1] at h
    exact h
  have d1 : W1.heap[B]? = some (.deferred (some [])) := by
    rw [← hW1, Below.heap_alloc _ _ _ (by rw [World.size_alloc]; omega), ← hB]
    exact World.alloc_heap_new w _
  have b1 : Below w.heap.size w W1 := by rw [← hW1]; exact ((Below.refl _ w).alloc (Nat.le_refl _) _).alloc (by simp) _
  -- what is said along the way
  let M2 : (Nat → Prop) → Nat → Prop := fun M k => M k ∨ k = B ∨ k = B + 1
  have up : ∀ {K : List α → (Nat → Prop) → World → Prop}, Abid B K → ∀ (o : Obj), Abid (B + 2) (fun pre M W => K pre (M2 M) W ∧ W.heap[B + 1]? = some o ∧ W.heap[B]? = some (.deferred (some [])) ∧ ¬ M (B + 1)) := by
    intro K hK o s M M' W W' ⟨hk, hr, hd, hn⟩ hf hm
    have l1 : B + 1 < W.heap.size := (Array.getElem?_eq_some_iff.1 hr).1
    refine ⟨hK s (M2 M) (M2 M') W W' hk (hf.mono fun k _ h hM => by have := h (.inl hM); omega) (fun k h => ?_), (hf.block _ l1 (fun _ => by omega)).trans hr, (hf.block _ (by omega) (fun _ => by omega)).trans hd, fun h => (hm _ h).elim hn (by omega)⟩
    rcases h with h | h
    · exact (hm k h).imp .inl id
    · exact .inl (.inr h)
  refine ⟨B + 1, [{ target := .collected B, args := #[] }], W1, { target := .fn (.func gf) lb, args := #[.func (.yield (B + 1)) #[] #[]] }, W1, gf, #[.func (.yield (B + 1)) #[] #[]] ++ lb, W1, ?_, ?_, fun _ _ => trivial, ?_, fun h => (by cases h), callsIn_wide.2 ?_⟩
  · have h := run_enterLoop_outer (P := P) (w := w) fn a.tmps ps assign body
    rw [hB] at h
    rw [← hW1]
    exact h
  · simp only [resolve, hg]
    simp [go_sem]
  · simp [invoke, go_sem, eg]
  refine (hseq (B + 1) (fun pre M W => I pre (M2 M) W ∧ W.heap[B + 1]? = some (rc .ready none) ∧ W.heap[B]? = some (.deferred (some [])) ∧ ¬ M (B + 1))
    (fun pre M W => ∃ c, Ix c pre (M2 M) W ∧ W.heap[B + 1]? = some (rc .done (some c)) ∧ W.heap[B]? = some (.deferred (some [])) ∧ ¬ M (B + 1)) W1 b1
    (by rw [sz1]; exact up hI _) (by rw [sz1]; exact fun s M M' W W' ⟨c, h⟩ hf hm => ⟨c, up (hIx c) _ s M M' W W' h hf hm⟩) ?_ ⟨?_, r1, d1, fun h => by have := hA _ h; omega⟩).mono ?_
  · -- a round
    rintro pre M x W ⟨hi, hr, hd, hn⟩ hMb hlen
    have l1 : B + 1 < W.heap.size := (Array.getElem?_eq_some_iff.1 hr).1
    refine ⟨fn, _, assign, body, run_yield (P := P) (args := encs x) hr (hps x), roundIn_of_wpIn trivial (hassign _ x W _ ?_)⟩
    refine ⟨_, run_beginRound hr rfl, ?_⟩
    obtain ⟨V, hV⟩ : ∃ V, W.putObj (B + 1) (rc .busy none) = V := ⟨_, rfl⟩
    have iV : I pre (M2 M) V := by rw [← hV]; exact hI.put _ hi (.inr (.inr rfl)) (by omega)
    have fV : Fr M W V := by rw [← hV]; exact (Fr.refl _ _).putObj hn _
    have rV : V.heap[B + 1]? = some (rc .busy none) := by rw [← hV]; exact World.putObj_heap_same l1
    have dV : V.heap[B]? = some (.deferred (some [])) := by rw [← hV]; exact (World.putObj_heap_other (by omega)).trans hd
    have lV : B + 1 < V.heap.size := (Array.getElem?_eq_some_iff.1 rV).1
    have e : W.putObj (B + 1) (.loop { state := .busy, pending := none, fn, tmps := a.tmps, params := ps, assign, body, defers := B }) = V := hV
    rw [e]
    have hMV : ∀ k, M2 M k → k < V.heap.size := fun k h => by
      rcases h with h | h | h
      · exact Nat.lt_of_lt_of_le (hMb k h) fV.size
      · omega
      · omega
    refine wpIn_mono (hbody _ pre (M2 M) x V iV hMV hlen) ?_
    -- a round's end
    have fin : ∀ (K : List α → (Nat → Prop) → World → Prop) (j : Option Code) (W3 : World), Abid B K → Fr (M2 M) V W3 → K (pre ++ [x]) (M2 M) W3 →
        ∃ W4, (Instr.endRound (B + 1) j).run P W3 = .ok (.bool j.isNone) W4 ∧ Fr M W W4 ∧ K (pre ++ [x]) (M2 M) W4 ∧ W4.heap[B + 1]? = some (rc (if j.isNone then .ready else .done) j) ∧ W4.heap[B]? = some (.deferred (some [])) := by
      intro K j W3 hK hf hk
      have r3 : W3.heap[B + 1]? = some (rc .busy none) := (hf.block _ lV (.inr (.inr rfl))).trans rV
      have l3 : B + 1 < W3.heap.size := (Array.getElem?_eq_some_iff.1 r3).1
      refine ⟨_, run_endRound (P := P) j r3, ((fV.trans (hf.mono fun k _ h => .inl h)).putObj hn _), hK.put _ hk (.inr (.inr rfl)) (by omega), World.putObj_heap_same l3, (World.putObj_heap_other (by omega)).trans ((hf.block _ (by omega) (.inr (.inl rfl))).trans dV)⟩
    rintro ex a3 W3 hp
    cases ex with
    | normal =>
      obtain ⟨W4, q1, q2, q3, q4, q5⟩ := fin I none W3 hI hp.1 hp.2
      exact ⟨_, _, q1, q2, .inl ⟨rfl, q3, q4, q5, hn⟩⟩
    | ret =>
      obtain ⟨W4, q1, q2, q3, q4, q5⟩ := fin (Ix .ret) (some .ret) W3 (hIx _) hp.1 hp.2
      exact ⟨_, _, q1, q2, .inr ⟨rfl, _, q3, q4, q5, hn⟩⟩
    | exit id =>
      obtain ⟨W4, q1, q2, q3, q4, q5⟩ := fin (Ix (.exit id)) (some (.exit id)) W3 (hIx _) hp.1 hp.2
      exact ⟨_, _, q1, q2, .inr ⟨rfl, _, q3, q4, q5, hn⟩⟩
    | goto t =>
      obtain ⟨W4, q1, q2, q3, q4, q5⟩ := fin (Ix (.goto t)) (some (.goto t)) W3 (hIx _) hp.1 hp.2
      exact ⟨_, _, q1, q2, .inr ⟨rfl, _, q3, q4, q5, hn⟩⟩
    | panic _ => exact hp.elim
    | outgrown => exact hp.elim
  · -- the start
    refine hI [] A (M2 A) w W1 h0 (Fr.of_below b1 fun k hk _ => hk) (fun k h => ?_)
    rcases h with h | h | h
    · exact .inl h
    · exact .inr ⟨by omega, by omega⟩
    · exact .inr ⟨by omega, by omega⟩
  · -- behind it
    have out : ∀ (K : List α → (Nat → Prop) → World → Prop) (o : Obj) (xs : List α) (W : World), Abid B K → K xs (M2 A) W → K xs (fun k => A k ∨ k = B) (W.putObj (B + 1) o) := fun K o xs W hK hk => hK.fewer (hK.put o hk (.inr (.inr rfl)) (by omega)) (fun _ h => h.imp id .inl)
    rintro e W2 ⟨⟨v, rfl⟩, (⟨hi, hr, hd, _⟩ | ⟨pre, hS, c, hi, hr, hd, _⟩)⟩
    · exact ⟨none, _, run_endLoop (P := P) hr (by simp), hdone _ _ (Nat.le_refl _) (out I _ X W2 hI hi) ((World.putObj_heap_other (by omega)).trans hd)⟩
    · exact ⟨some c, _, run_endLoop (P := P) hr (by simp), hstop _ c pre _ (Nat.le_refl _) hS (out (Ix c) _ pre W2 (hIx c) hi) ((World.putObj_heap_other (by omega)).trans hd)⟩

/-- A box that is one's own. -/
theorem boxed_abid {β : Type} (b0 B : Nat) (t : TypeId) (v : Value) : Abid b0 (fun (_ : β) M W => Boxed W B t v ∧ ¬ M B) :=
  Abid.own B (fun _ W => Boxed W B t v) (fun _ _ _ h e => e.trans h) (fun _ _ h => h.lt)

/-- Box B holds a slice that owns the row L; neither is among M. -/
def RB (W : World) (B n₀ : Nat) (t e : TypeId) (L : List Value) (M : Nat → Prop) : Prop :=
  ∃ v, Boxed W B t v ∧ W.ownsRow n₀ e 1 v L.length L ∧ ¬ M B ∧ ∀ g, v.ownBlock = some g → ¬ M g

theorem ownsRow_block {W W' : World} {n₀ n : Nat} {e : TypeId} {v : Value} {L : List Value} (h : W.ownsRow n₀ e 1 v n L) (hk : ∀ g, v.ownBlock = some g → g < W.heap.size → W'.heap[g]? = W.heap[g]?) : W'.ownsRow n₀ e 1 v n L := by
  refine ⟨h.1, ?_⟩
  rcases h.2 with h | ⟨g, cap, cur, rfl, hb, hg, r⟩
  · exact .inl h
  · exact .inr ⟨g, cap, cur, rfl, hb, (hk g rfl (Array.getElem?_eq_some_iff.1 hg).1).trans hg, r⟩

theorem ownsRow_at {W : World} {n₀ n : Nat} {e : TypeId} {v : Value} {L : List Value} (h : W.ownsRow n₀ e 1 v n L) {g : Nat} (hg : v.ownBlock = some g) : n₀ ≤ g ∧ g < W.heap.size := by
  rcases h.2 with ⟨rfl, _⟩ | ⟨g', cap, cur, rfl, hb, hh, r⟩
  · cases hg
  · simp [Value.ownBlock] at hg
    subst hg
    exact ⟨hb, (Array.getElem?_eq_some_iff.1 hh).1⟩

theorem RB.abid {β : Type} (b0 B n₀ : Nat) (t e : TypeId) (f : β → List Value) : Abid b0 (fun s M W => RB W B n₀ t e (f s) M) := by
  rintro s M M' W W' ⟨v, hv, hr, hB, hg⟩ hf hm
  refine ⟨v, (hf.block B hv.lt (fun h => absurd h hB)).trans hv, ownsRow_block hr (fun g eg hlt => hf.block g hlt (fun h => absurd h (hg g eg))), fun h => ?_, fun g eg h => ?_⟩
  · rcases hm B h with h | h
    · exact hB h
    · have := hv.lt; omega
  · rcases hm g h with h | h
    · exact hg g eg h
    · have := (ownsRow_at hr eg).2; omega

/-- A row in a box has been appended to. -/
theorem RB.append {W w1 : World} {B n₀ : Nat} {t e : TypeId} {L : List Value} {M : Nat → Prop} {v v' u : Value} {tmp : Obj} (hv : Boxed W B t v) (hr : W.ownsRow n₀ e 1 v L.length L) (hB : ¬ M B) (hg : ∀ g, v.ownBlock = some g → ¬ M g) (hM : ∀ k, M k → k < W.heap.size) (hte : t ≠ e) (hn : n₀ ≤ W.heap.size) (hnB : n₀ ≤ B)
    (h1 : w1.ownsRow n₀ e 1 v' (L.length + 1) (L ++ [u])) (hgr : (W.alloc tmp).grownBy w1 v.ownBlock) (hat : v'.ownBlock = v.ownBlock ∨ v'.ownBlock = some (W.alloc tmp).heap.size) :
    Fr M W (w1.setCell ⟨B, 0, none⟩ v') ∧ RB (w1.setCell ⟨B, 0, none⟩ v') B n₀ t e (L ++ [u]) M ∧ Below n₀ W (w1.setCell ⟨B, 0, none⟩ v') ∧ Boxed w1 B t v := by
  obtain ⟨q1, q2, q3, _, q5⟩ := hv.appended hte hr hn hnB h1 hgr
  refine ⟨(((Fr.refl M W).alloc tmp).grown hgr (fun k e => hg k e)).setCell hB v', ⟨v', q2, by rw [List.length_append]; exact q3, hB, fun g eg h => ?_⟩, q5, q1⟩
  rcases hat with e | e
  · exact hg g (e ▸ eg) h
  · rw [e, World.size_alloc] at eg
    have := hM g h
    cases eg
    omega

end Go.Proofs.YtbnnobeahliffaaGreatDoor
