/- A range over a function that hands over things which lie in memory that it lays anew each time (rows, say): what is handed over is told by a relation. And: a region that draws its order at the wide fence, with a call of yield among its operations. Nothing of the program. -/
import Derived.Test.YtppmmobmoanagaaDoorSeq
import Derived.OrdersIn
namespace Go.Proofs.YtppmmobmoanagaaDoor
open Go.RowKit

/-- What is handed over abides that a block which is a loop's record is written. -/
def EncAbid {α : Type} (E : α → Array Value → World → Prop) : Prop :=
  ∀ x vs W l r r', W.heap[l]? = some (.loop r) → E x vs W → E x vs (W.putObj l (.loop r'))

/-- As SeqM: but what is handed over for a thing is whatever stands in the relation E to it, there and then. -/
def SeqE {α : Type} (P : Program) (g : Nat) (lb : Array Value) (E : α → Array Value → World → Prop) (A : Nat → Prop) (X : List α) (w : World) : Prop :=
  ∀ (l : Nat) (J Jx : List α → (Nat → Prop) → World → Prop) (W : World), Below w.heap.size w W → Abid W.heap.size J → Abid W.heap.size Jx →
    (∀ pre M x vs W1, J pre M W1 → (∀ k, M k → k < W1.heap.size) → (pre ++ [x]) <+: X → E x vs W1 → YieldAt Fence.wide 7 P l vs W1 fun e W' =>
      Fr M W1 W' ∧ ((e = .returned (.bool true) ∧ J (pre ++ [x]) M W') ∨ (e = .returned (.bool false) ∧ Jx (pre ++ [x]) M W'))) →
    J [] A W →
    Calls P g (#[.func (.yield l) #[] #[]] ++ lb) W fun e W' => (∃ v, e = .returned v) ∧ (J X A W' ∨ (∃ pre, pre <+: X ∧ Jx pre A W'))

theorem SeqE.later {α : Type} {P : Program} {g : Nat} {lb : Array Value} {E : α → Array Value → World → Prop} {A : Nat → Prop} {X : List α} {w w' : World} (h : SeqE P g lb E A X w) (hb : Below w.heap.size w w') : SeqE P g lb E A X w' :=
  fun l J Jx W hW => h l J Jx W (hb.trans (hW.mono hb.size))

/-- The statement 'for .. := range g { .. }' over such a function. -/
theorem wp_seqE {α : Type} {P : Program} {g : Operand} {ps : Array Tmp} {assign body : Code} {Q : Exit → Act → World → Prop} {a : Act} {w : World}
    {gf : Nat} {lb : Array Value} (hg : a.eval g = .func (.func gf) #[] lb) (eg : ∀ args w, (callFunc gf args).run P w = .ok (.enter gf args) w)
    {E : α → Array Value → World → Prop} {A : Nat → Prop} {X : List α} (hseq : SeqE P gf lb E A X w) (hE : EncAbid E) (hps : ∀ x vs W, E x vs W → vs.size = ps.size) (hA : ∀ k, A k → k < w.heap.size)
    (I : List α → (Nat → Prop) → World → Prop) (Ix : Code → List α → (Nat → Prop) → World → Prop) (hI : Abid w.heap.size I) (hIx : ∀ c, Abid w.heap.size (Ix c)) (h0 : I [] A w) (a₁ : Array Value → Act)
    (hassign : ∀ (l : Nat) (x : α) (vs : Array Value) (W : World) (K : Act → World → Prop), E x vs W → K (a₁ vs) W →
      assign.wpIn (Fence.wide.inRound l) 7 P (Exit.then K (fun _ _ _ => False)) { tmps := (ps.zip vs).foldl (fun t (p, v) => t.setIfInBounds p v) a.tmps, defers := [] } W)
    (hbody : ∀ (l : Nat) (pre : List α) (M : Nat → Prop) (x : α) (vs : Array Value) (W : World), E x vs W → I pre M W → (∀ k, M k → k < W.heap.size) → (pre ++ [x]) <+: X → body.wpIn (Fence.wide.inRound l) 7 P (postM M I Ix (pre ++ [x]) W) (a₁ vs) W)
    (hdone : ∀ (D : Nat) (W : World), w.heap.size ≤ D → I X (fun k => A k ∨ k = D) W → W.heap[D]? = some (.deferred (some [])) → Q .normal { a with defers := { target := .collected D, args := #[] } :: a.defers } W)
    (hstop : ∀ (D : Nat) (c : Code) (pre : List α) (W : World), w.heap.size ≤ D → pre <+: X → Ix c pre (fun k => A k ∨ k = D) W → W.heap[D]? = some (.deferred (some [])) → c.wpIn Fence.wide 9 P Q { a with defers := { target := .collected D, args := #[] } :: a.defers } W) :
    (Code.rangeFunc g ps assign body).wpIn Fence.wide 9 P Q a w := by
  refine wpIn_rangeFunc fun fn _ => ?_
  obtain ⟨B, hB⟩ : ∃ B, w.heap.size = B := ⟨_, rfl⟩
  rw [hB] at hA hI hIx hdone hstop
  let rc : LoopState → Option Code → Obj := fun st pe => .loop { state := st, pending := pe, fn, tmps := a.tmps, params := ps, assign, body, defers := B }
  -- the two blocks that are laid
  obtain ⟨W1, hW1⟩ : ∃ W1, (w.alloc (.deferred (some []))).alloc (rc .ready none) = W1 := ⟨_, rfl⟩
  have sz1 : W1.heap.size = B + 2 := by rw [← hW1, World.size_alloc, World.size_alloc, hB]
  have r1 : W1.heap[B + 1]? = some (rc .ready none) := by
    have h := World.alloc_heap_new (w.alloc (.deferred (some []))) (rc .ready none)
    rw [World.size_alloc, hB, hW1] at h
    exact h
  have d1 : W1.heap[B]? = some (.deferred (some [])) := by
    rw [← hW1, Below.heap_alloc _ _ _ (by rw [World.size_alloc]; omega), ← hB]
    exact World.alloc_heap_new w _
  have b1 : Below w.heap.size w W1 := by rw [← hW1]; exact ((Below.refl _ w).alloc (Nat.le_refl _) _).alloc (by simp) _
  -- what is said along the way
  let M2 : (Nat → Prop) → Nat → Prop := fun M k => M k ∨ k = B ∨ k = B + 1
  have up : ∀ {K : List α → (Nat → Prop) → World → Prop}, Abid B K → ∀ (o : Obj), Abid (B + 2) (fun pre M W => K pre (M2 M) W ∧ W.heap[B + 1]? = some o ∧ W.heap[B]? = some (.deferred (some [])) ∧ ¬ M (B + 1)) := by
    intro K hK o s M M' W W' ⟨hk, hr, hd, hn⟩ hf hm
    have l1 : B + 1 < W.heap.size := (Array.getElem?_eq_some_iff.1 hr).1
    refine ⟨hK s (M2 M) (M2 M') W W' hk (hf.mono fun k _ h hM => by have := h (.inl hM); omega) (fun k h => ?_), (hf.block _ l1 (fun _ => by omega)).trans hr, (hf.block _ (by omega) (fun _ => by omega)).trans hd, fun h => (hm _ h).elim hn (by omega)⟩
    rcases h with h | h
    · exact (hm k h).imp .inl id
    · exact .inl (.inr h)
  refine ⟨B + 1, [{ target := .collected B, args := #[] }], W1, { target := .fn (.func gf) lb, args := #[.func (.yield (B + 1)) #[] #[]] }, W1, gf, #[.func (.yield (B + 1)) #[] #[]] ++ lb, W1, ?_, ?_, fun _ _ => trivial, ?_, fun h => (by cases h), callsIn_wide.2 ?_⟩
  · have h := run_enterLoop_outer (P := P) (w := w) fn a.tmps ps assign body
    rw [hB] at h
    rw [← hW1]
    exact h
  · simp only [resolve, hg]
    simp [go_sem]
  · simp [invoke, go_sem, eg]
  refine (hseq (B + 1) (fun pre M W => I pre (M2 M) W ∧ W.heap[B + 1]? = some (rc .ready none) ∧ W.heap[B]? = some (.deferred (some [])) ∧ ¬ M (B + 1))
    (fun pre M W => ∃ c, Ix c pre (M2 M) W ∧ W.heap[B + 1]? = some (rc .done (some c)) ∧ W.heap[B]? = some (.deferred (some [])) ∧ ¬ M (B + 1)) W1 b1
    (by rw [sz1]; exact up hI _) (by rw [sz1]; exact fun s M M' W W' ⟨c, h⟩ hf hm => ⟨c, up (hIx c) _ s M M' W W' h hf hm⟩) ?_ ⟨?_, r1, d1, fun h => by have := hA _ h; omega⟩).mono ?_
  · -- a round
    rintro pre M x vs W ⟨hi, hr, hd, hn⟩ hMb hlen hEx
    have l1 : B + 1 < W.heap.size := (Array.getElem?_eq_some_iff.1 hr).1
    refine ⟨fn, _, assign, body, run_yield (P := P) (args := vs) hr (hps x vs W hEx), roundIn_of_wpIn trivial (hassign _ x vs W _ hEx ?_)⟩
    refine ⟨_, run_beginRound hr rfl, ?_⟩
    obtain ⟨V, hV⟩ : ∃ V, W.putObj (B + 1) (rc .busy none) = V := ⟨_, rfl⟩
    have iV : I pre (M2 M) V := by rw [← hV]; exact hI.put _ hi (.inr (.inr rfl)) (by omega)
    have fV : Fr M W V := by rw [← hV]; exact (Fr.refl _ _).putObj hn _
    have rV : V.heap[B + 1]? = some (rc .busy none) := by rw [← hV]; exact World.putObj_heap_same l1
    have dV : V.heap[B]? = some (.deferred (some [])) := by rw [← hV]; exact (World.putObj_heap_other (by omega)).trans hd
    have lV : B + 1 < V.heap.size := (Array.getElem?_eq_some_iff.1 rV).1
    have e : W.putObj (B + 1) (.loop { state := .busy, pending := none, fn, tmps := a.tmps, params := ps, assign, body, defers := B }) = V := hV
    rw [e]
    have hMV : ∀ k, M2 M k → k < V.heap.size := fun k h => by
      rcases h with h | h | h
      · exact Nat.lt_of_lt_of_le (hMb k h) fV.size
      · omega
      · omega
    refine wpIn_mono (hbody _ pre (M2 M) x vs V (by rw [← hV]; exact hE x vs W _ _ _ hr hEx) iV hMV hlen) ?_
    -- a round's end
    have fin : ∀ (K : List α → (Nat → Prop) → World → Prop) (j : Option Code) (W3 : World), Abid B K → Fr (M2 M) V W3 → K (pre ++ [x]) (M2 M) W3 →
        ∃ W4, (Instr.endRound (B + 1) j).run P W3 = .ok (.bool j.isNone) W4 ∧ Fr M W W4 ∧ K (pre ++ [x]) (M2 M) W4 ∧ W4.heap[B + 1]? = some (rc (if j.isNone then .ready else .done) j) ∧ W4.heap[B]? = some (.deferred (some [])) := by
      intro K j W3 hK hf hk
      have r3 : W3.heap[B + 1]? = some (rc .busy none) := (hf.block _ lV (.inr (.inr rfl))).trans rV
      have l3 : B + 1 < W3.heap.size := (Array.getElem?_eq_some_iff.1 r3).1
      refine ⟨_, run_endRound (P := P) j r3, ((fV.trans (hf.mono fun k _ h => .inl h)).putObj hn _), hK.put _ hk (.inr (.inr rfl)) (by omega), World.putObj_heap_same l3, (World.putObj_heap_other (by omega)).trans ((hf.block _ (by omega) (.inr (.inl rfl))).trans dV)⟩
    rintro ex a3 W3 hp
    cases ex with
    | normal =>
      obtain ⟨W4, q1, q2, q3, q4, q5⟩ := fin I none W3 hI hp.1 hp.2
      exact ⟨_, _, q1, q2, .inl ⟨rfl, q3, q4, q5, hn⟩⟩
    | ret =>
      obtain ⟨W4, q1, q2, q3, q4, q5⟩ := fin (Ix .ret) (some .ret) W3 (hIx _) hp.1 hp.2
      exact ⟨_, _, q1, q2, .inr ⟨rfl, _, q3, q4, q5, hn⟩⟩
    | exit id =>
      obtain ⟨W4, q1, q2, q3, q4, q5⟩ := fin (Ix (.exit id)) (some (.exit id)) W3 (hIx _) hp.1 hp.2
      exact ⟨_, _, q1, q2, .inr ⟨rfl, _, q3, q4, q5, hn⟩⟩
    | goto t =>
      obtain ⟨W4, q1, q2, q3, q4, q5⟩ := fin (Ix (.goto t)) (some (.goto t)) W3 (hIx _) hp.1 hp.2
      exact ⟨_, _, q1, q2, .inr ⟨rfl, _, q3, q4, q5, hn⟩⟩
    | panic _ => exact hp.elim
    | outgrown => exact hp.elim
  · -- the start
    refine hI [] A (M2 A) w W1 h0 (Fr.of_below b1 fun k hk _ => hk) (fun k h => ?_)
    rcases h with h | h | h
    · exact .inl h
    · exact .inr ⟨by omega, by omega⟩
    · exact .inr ⟨by omega, by omega⟩
  · -- behind it
    have out : ∀ (K : List α → (Nat → Prop) → World → Prop) (o : Obj) (xs : List α) (W : World), Abid B K → K xs (M2 A) W → K xs (fun k => A k ∨ k = B) (W.putObj (B + 1) o) := fun K o xs W hK hk => hK.fewer (hK.put o hk (.inr (.inr rfl)) (by omega)) (fun _ h => h.imp id .inl)
    rintro e W2 ⟨⟨v, rfl⟩, (⟨hi, hr, hd, _⟩ | ⟨pre, hS, c, hi, hr, hd, _⟩)⟩
    · exact ⟨none, _, run_endLoop (P := P) hr (by simp), hdone _ _ (Nat.le_refl _) (out I _ X W2 hI hi) ((World.putObj_heap_other (by omega)).trans hd)⟩
    · exact ⟨some c, _, run_endLoop (P := P) hr (by simp), hstop _ c pre _ (Nat.le_refl _) hS (out (Ix c) _ pre W2 (hIx c) hi) ((World.putObj_heap_other (by omega)).trans hd)⟩

section
variable {F : Fence} {n : Nat} {P : Program} {md : Region.Mode} {ops : Array Oper} {Q : Exit → Act → World → Prop} {S : World → Prop}

/-- Whatever order is drawn, S holding behind each operation: at a fence that is no round. -/
def AnyS (F : Fence) (n : Nat) (P : Program) (md : Region.Mode) (ops : Array Oper) (Q : Exit → Act → World → Prop) (S : World → Prop) : Nat → Array Bool → Act → World → Prop
  | 0, l, a, w => Region.ready md ops l = [] ∧ Q .normal a w
  | k + 1, l, a, w => (Region.ready md ops l = [] → Q .normal a w) ∧ ∀ i ∈ Region.ready md ops l, wpOpIn F n P ops Q i (fun a' w' => S w' ∧ AnyS F n P md ops Q S k (l.setIfInBounds i true) a' w') a w

theorem AnyS.any : ∀ (k : Nat) (l : Array Bool) (a : Act) (w : World), AnyS F n P md ops Q S k l a w → wpAnyIn F n P md ops Q k l a w
  | 0, _, _, _, h => h
  | k + 1, _, _, _, h => ⟨h.1, fun i hi => wpOpIn_mono (fun a' w' hh => AnyS.any k _ a' w' hh.2) (h.2 i hi)⟩

/-- The value, as a copy of a constant: what a load that yields v leaves. -/
def asConst (o : Oper) (v : Value) : Oper := { o with op := .move (.const v) }
/-- A copy of what a load's address is, kept nowhere. -/
def asAddr (o : Oper) (x : Operand) : Oper := { o with op := .move x, dst := none }

theorem yields_move {o : Oper} {x : Operand} {v : Value} {a : Act} (hop : o.op = .move x) (hg : o.guard = none) (hx : a.eval x = v) : YieldsFenced P ops o v a := by
  refine ⟨.inl ⟨by simp [Region.wanted, hg], fun w => by simp only [execOp, hop, hx]; rfl⟩, fun w => by unfold Oper.about; rw [hop]⟩

theorem AnyS.take_first {i : Nat} {oi : Oper} {x : Operand} {p v : Value} (hro : F.round = none) (hi : ops[i]? = some oi) (hop : oi.op.operands = #[x]) (hab : ∀ (a : Act) (w : World), oi.about P w a.eval = none) (hg : oi.guard = none)
    (hsel : ∀ (j : Nat) (o : Oper) cs b, ops[j]? = some o → o.op ≠ .select cs b)
    (hQ : ∀ c a w, Q (.panic c) (a.put oi.dst v) w → Q (.panic c) a w)
    (hy : ∀ (a : Act) (w : World), a.eval x = p → S w → (execOp a.eval oi).run P w = .ok (.value v) w) :
    ∀ (k : Nat) (l : Array Bool) (a : Act) (w : World),
      (∀ j oj, ops[j]? = some oj → j ≠ i → l.getD j true = false → (∀ e ∈ oj.after, Region.binds md e = true → e.on ≠ i) → oi.apart ops oj = true) →
      i ∈ Region.ready md ops l → a.eval x = p → S w →
      AnyS F n P md ops Q S k (l.setIfInBounds i true) (a.put oi.dst v) w → AnyS F n P md ops Q S (k + 1) l a w := by
  have own : ∀ {a : Act} {w : World} {K : Act → World → Prop}, a.eval x = p → S w → K (a.put oi.dst v) w → wpOpIn F n P ops Q i K a w := fun {a w K} hx hS hK => by
    refine wpOpIn_step hi (fun K' hK' => ?_)
    rw [if_pos (by simp [Region.wanted, hg])]
    unfold Oper.wpIn
    rw [hro, Oper.semAt_none, hy a w hx hS]
    exact ⟨fun f hf => (by rw [hab] at hf; cases hf), hK' _ _ hK⟩
  intro k
  induction k with
  | zero =>
    intro l a w _ hr hx hS H
    refine ⟨fun h => (by rw [h] at hr; cases hr), fun j hj => ?_⟩
    by_cases hji : j = i
    · subst hji; exact own hx hS ⟨hS, H⟩
    · have := ready_mono hj hji
      rw [H.1] at this
      cases this
  | succ k ih =>
    intro l a w hfree hr hx hS H
    refine ⟨fun h => (by rw [h] at hr; cases hr), fun j hj => ?_⟩
    by_cases hji : j = i
    · subst hji; exact own hx hS ⟨hS, H⟩
    · obtain ⟨hjun, oj, hoj, hall⟩ := mem_ready.1 hj
      have hap := hfree j oj hoj hji hjun (fun e he hb heq => by
        have h1 := hall e he hb
        have h0 := (mem_ready.1 hr).1
        rw [heq] at h1
        rcases Nat.lt_or_ge i l.size with h' | h'
        · simp [h'] at h0 h1; rw [h0] at h1; cases h1
        · simp [Array.getElem?_eq_none h'] at h1)
      obtain ⟨q1, q2, q3⟩ := Oper.apart_spec hap
      have l1 : (asConst oi v).looksAt ops = [] := by simp [Oper.looksAt, asConst, Op.operands, hg]
      have l2 : (asAddr oi x).looksAt ops = oi.looksAt ops := by unfold Oper.looksAt; rw [hop]; rfl
      have ap1 : (asConst oi v).apart ops oj = true := by
        unfold Oper.apart
        rw [l1]
        simp only [asConst]
        cases hd : oi.dst with
        | none => cases oj.dst <;> simp
        | some d =>
          have e1 := q1 d hd
          have e2 := q2 d hd
          cases hoj2 : oj.dst <;> simp_all
      have ap2 : (asAddr oi x).apart ops oj = true := by
        unfold Oper.apart
        rw [l2]
        simp only [asAddr]
        cases hd : oj.dst with
        | none => simp
        | some d => have e3 := q3 d hd; simp [e3]
      have h1 := H.2 j (ready_mono hj hji)
      have s1 : ∀ (o : Oper), (∃ y, o.op = .move y) → ∀ cs b, o.op ≠ .select cs b := fun o ⟨y, hy⟩ cs b hh => by rw [hy] at hh; cases hh
      have h2 := wpOpIn_put (oi := asConst oi v) (v := v) hro hoj ap1 (s1 _ ⟨_, rfl⟩) (fun cs b => hsel j oj cs b hoj) hQ (yields_move (x := .const v) rfl hg rfl) h1
      have h3 := wpOpIn_put (oi := asAddr oi x) (v := p) (a := a) hro hoj ap2 (s1 _ ⟨_, rfl⟩) (fun cs b => hsel j oj cs b hoj) (fun c a w h => h) (yields_move (x := x) rfl hg hx) h2
      refine wpOpIn_mono (fun a' w' h4 => ?_) h3
      obtain ⟨hyx, _, hSw, hA⟩ := h4
      have hx' : a'.eval x = p := by
        rcases hyx.1 with ⟨_, hv⟩ | ⟨hw, _⟩
        · have h5 : Result.ok (Next.value (a'.eval x)) w' = Result.ok (Next.value p) w' := hv w'
          injection h5 with h6 _
          injection h6
        · simp [Region.wanted, asAddr, hg] at hw
      refine ⟨hSw, ih (l.setIfInBounds j true) a' w' (fun m om hm hmi hun hno => ?_) (ready_mono hr (Ne.symm hji)) hx' hSw ?_⟩
      · refine hfree m om hm hmi ?_ hno
        by_cases hjm : j = m
        · subst hjm; exact hjun
        · rw [getD_set_ne true hjm] at hun; exact hun
      · rw [Array.setIfInBounds_comm _ _ hji]
        exact hA

/-- An operation that copies or loads is taken first: what it yields hangs on S alone. -/
theorem AnyS.take {os : List Oper} {i : Nat} {oi : Oper} {x : Operand} {v : Value} {k : Nat} {l : Array Bool} {a : Act} {w : World} (hro : F.round = none) (hi : os[i]? = some oi) (hop : oi.op.operands = #[x]) (hab : ∀ (a : Act) (w : World), oi.about P w a.eval = none) (hg : oi.guard = none)
    (hs : Region.noSelect os.toArray = true) (hf : Region.free md os.toArray l i = true) (hr : (Region.ready md os.toArray l).contains i = true)
    (hQ : ∀ c a w, Q (.panic c) (a.put oi.dst v) w → Q (.panic c) a w)
    (hy : ∀ (a' : Act) (w : World), a'.eval x = a.eval x → S w → (execOp a'.eval oi).run P w = .ok (.value v) w) (hS : S w)
    (h : AnyS F n P md os.toArray Q S k (l.setIfInBounds i true) (a.put oi.dst v) w) : AnyS F n P md os.toArray Q S (k + 1) l a w :=
  AnyS.take_first hro (by simpa using hi) hop hab hg (Region.noSelect_spec hs) hQ hy k l a w (Region.free_spec (by simpa using hi) hf) (by simpa using hr) rfl hS h

/-- An operation comes next, and no other may. -/
theorem AnyS.step {os : List Oper} {i : Nat} {o : Oper} {k : Nat} {l : Array Bool} {a : Act} {w : World} (ho : os[i]? = some o) (hr : Region.ready md os.toArray l = [i]) (hg : o.guard = none)
    (h : ∀ K : Act → World → Prop, Shut (∀ a' w', S w' → AnyS F n P md os.toArray Q S k (l.setIfInBounds i true) a' w' → K a' w') → Oper.wpIn F n P o a w K Q) : AnyS F n P md os.toArray Q S (k + 1) l a w := by
  refine ⟨fun h0 => (by rw [hr] at h0; cases h0), fun j hj => ?_⟩
  rw [hr] at hj
  have e : j = i := by simpa using hj
  subst e
  refine wpOpIn_step (by simpa using ho) (fun K' hK' => ?_)
  rw [if_pos (by simp [Region.wanted, hg])]
  exact h K' (fun a' w' hS hA => hK' _ _ ⟨hS, hA⟩)

theorem AnyS.done {k : Nat} {l : Array Bool} {a : Act} {w : World} (hr : Region.ready md ops l = []) (h : Q .normal a w) : AnyS F n P md ops Q S k l a w := by
  cases k with
  | zero => exact ⟨hr, h⟩
  | succ k => exact ⟨fun _ => h, fun i hi => by rw [hr] at hi; cases hi⟩

/-- A region that draws its order, at a fence. -/
theorem region_any {id : Nat} {a : Act} {w : World} (hm : P.follows .mixedOrders = true)
    (h : AnyS F n P .any ops Q S ops.size (Array.replicate ops.size false) a w.drew) : (Code.region id ops true).wpIn F n P Q a w :=
  wpIn_region_any hm (AnyS.any _ _ _ _ h)

end
end Go.Proofs.YtppmmobmoanagaaDoor
