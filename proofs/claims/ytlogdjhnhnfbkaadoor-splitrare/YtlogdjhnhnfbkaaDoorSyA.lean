/- What layer 11 tells: plain. A range over a function that hands over things which lie in memory that it lays anew each time (rows, say): what is handed over is told by a relation. And: a region that draws its order at the wide fence, with a call of yield among its operations. Nothing of the program. Contracts of symb.Marks, symb.Places. Contracts of symb.kindRows, and of the function that it tells: for each kind its elements and its marks, as two new rows. Rows of whole numbers that are new and written into; contracts of math/bits.Mul and of slices.Repeat of one number. Contracts of symb.Counts, symb.Find. Contracts of the document's own answers of layer 11: Marks, Places, Check, Counts, Find. Contracts of the document's own answers of layer 11: Check, Counts, Find. -/
import Derived.Test.YtlogdjhnhnfbkaaDoorSyMath
import Derived.Test.YtlogdjhnhnfbkaaDoorBlkMath
import Derived.Test.YtlogdjhnhnfbkaaDoorNvA
import Derived.Test.YtlogdjhnhnfbkaaDoorSeq
import Derived.OrdersIn
import Derived.Test.YtlogdjhnhnfbkaaDoorFuRow
import Derived.Test.YtlogdjhnhnfbkaaDoorLfA
import Derived.Test.YtlogdjhnhnfbkaaDoorCrtBits
import Derived.Laws.CopyRow
import Derived.Laws.CopyOwn
import Derived.Test.YtlogdjhnhnfbkaaDoorTold5
import Derived.Test.YtlogdjhnhnfbkaaDoorBlkA
import Derived.Test.YtlogdjhnhnfbkaaDoorWdSize
import Derived.Test.YtlogdjhnhnfbkaaDoorConvLaw
import Derived.Deep.RegionHeld3

namespace Go.Proofs.YtlogdjhnhnfbkaaDoor
open Go.RowKit Res
namespace Cls

/-- What is amiss. -/
def se (P : Nat → Nat → Bool) (n : Nat) (K : Int) (m : Nat) (z : Int) : Int := if rgt P n K = false then 170 else if n ≤ m ∧ szb n z = false then 50 else 0

/-- What is counted. -/
def sc (P : Nat → Nat → Bool) (n : Nat) (K : Int) (s : ByteArray) (z : Int) : List Nat := if se P n K s.size z = 0 then cts P n K s else []

/-- How many transforms. -/
def sq (P : Nat → Nat → Bool) (n : Nat) (K : Int) (m : Nat) (z : Int) : Int := if se P n K m z = 0 then ((kd P n).length : Int) * ct n m z else 0

/-- What is found. -/
def sf (P : Nat → Nat → Bool) (n : Nat) (K : Int) (s : ByteArray) (z : Int) : List Nat := if se P n K s.size z = 0 then fnd P n K s else []

theorem se_form {P : Nat → Nat → Bool} {n m : Nat} {K z : Int} (h : rgt P n K = false) : se P n K m z = 170 := if_pos h

theorem se_size {P : Nat → Nat → Bool} {n m : Nat} {K z : Int} (h : rgt P n K = true) (h2 : n ≤ m) (h3 : szb n z = false) : se P n K m z = 50 := by
  unfold se
  rw [if_neg (by rw [h]; decide), if_pos ⟨h2, h3⟩]

theorem se_ok {P : Nat → Nat → Bool} {n m : Nat} {K z : Int} (h : rgt P n K = true) (h2 : m < n ∨ szb n z = true) : se P n K m z = 0 := by
  unfold se
  rw [if_neg (by rw [h]; decide), if_neg (fun hh => h2.elim (fun h2 => by omega) (fun h2 => by rw [h2] at hh; cases hh.2))]

theorem se_rgt {P : Nat → Nat → Bool} {n m : Nat} {K z : Int} (h : se P n K m z = 0) : rgt P n K = true ∧ (m < n ∨ szb n z = true) := by
  cases hr : rgt P n K with
  | false => rw [se_form hr] at h; cases h
  | true =>
    refine ⟨rfl, ?_⟩
    by_cases hm : m < n
    · exact .inl hm
    · cases hz : szb n z with
      | true => exact .inr rfl
      | false => rw [se_size hr (by omega) hz] at h; cases h

theorem sc_ok {P : Nat → Nat → Bool} {n : Nat} {K z : Int} {s : ByteArray} (h : se P n K s.size z = 0) : sc P n K s z = cts P n K s := if_pos h

theorem sc_no {P : Nat → Nat → Bool} {n : Nat} {K z : Int} {s : ByteArray} (h : ¬ se P n K s.size z = 0) : sc P n K s z = [] := if_neg h

theorem sq_ok {P : Nat → Nat → Bool} {n m : Nat} {K z : Int} (h : se P n K m z = 0) : sq P n K m z = ((kd P n).length : Int) * ct n m z := if_pos h

theorem sq_no {P : Nat → Nat → Bool} {n m : Nat} {K z : Int} (h : ¬ se P n K m z = 0) : sq P n K m z = 0 := if_neg h

theorem sf_ok {P : Nat → Nat → Bool} {n : Nat} {K z : Int} {s : ByteArray} (h : se P n K s.size z = 0) : sf P n K s z = fnd P n K s := if_pos h

theorem sf_no {P : Nat → Nat → Bool} {n : Nat} {K z : Int} {s : ByteArray} (h : ¬ se P n K s.size z = 0) : sf P n K s z = [] := if_neg h

theorem sc_len (P : Nat → Nat → Bool) (n : Nat) (K : Int) (s : ByteArray) (z : Int) : (sc P n K s z).length ≤ s.size + 1 := by
  unfold sc
  split
  · rw [cts_len]; exact stn_le _ _ _ _
  · simp

theorem sf_len (P : Nat → Nat → Bool) (n : Nat) (K : Int) (s : ByteArray) (z : Int) : (sf P n K s z).length ≤ s.size + 1 := by
  unfold sf
  split
  · exact fnd_len P n K s
  · simp

/-- How many transforms a row slid along takes at most. -/
theorem ct_small11 {n m : Nat} {z : Int} : 0 ≤ ct n m z ∧ ct n m z ≤ 6597069766659 := by
  have := ct_ge (n : Int) (m : Int) z
  omega

theorem ct_zero {n m : Nat} {z : Int} (h1 : 1 ≤ n) (hm : n ≤ m) : ct n m z = 0 ↔ szb n z = false := by
  cases hz : szb n z with
  | false => exact ⟨fun _ => rfl, fun _ => ct_no (fun h => by rw [hz] at h; cases h.2)⟩
  | true =>
    refine ⟨fun h => ?_, fun h => (by cases h)⟩
    rw [ct_yes (by omega) (by omega) hz] at h
    generalize (min (m : Int) 1099511627776 - (n : Int) + 1 + (z - (n : Int) + 1) - 1) / (z - (n : Int) + 1) = q at h
    omega

/-- Marks slid along are told, all of them. -/
theorem bc_marks {n m : Nat} {z : Int} (h1 : 1 ≤ n) (h64 : n ≤ 1000000) (hm : n ≤ m) (A B : Nat → Int) (hA : ∀ t, A t ≤ 1) (hB : ∀ t, B t ≤ 1) :
    (szb n z = true → bc n m A B z = 0 ∧ bl n m A B z = m - n + 1 ∧ bq n m A B z = ct n m z) ∧ (szb n z = false → bc n m A B z = 50 ∧ bl n m A B z = 0 ∧ bq n m A B z = 0) := by
  have hno : ¬ (n = 0 ∨ m < n) := by omega
  refine ⟨fun hz => ?_, fun hz => ?_⟩
  · have g1 := gr_hi (M := 1) (by omega) hA n
    have g2 := gr_hi (M := 1) (by omega) hB m
    have g3 := gr_nonneg n A
    have g4 := gr_nonneg m B
    have hg : ¬ 18446744073709551616 ≤ gr n A * gr m B * (n : Int) := by
      have k1 : gr n A * gr m B ≤ 1 * 1 := Int.mul_le_mul g1 g2 g4 (by omega)
      have k2 : gr n A * gr m B * (n : Int) ≤ 1 * 1 * 1000000 := Int.mul_le_mul k1 (by omega) (by omega) (by omega)
      omega
    have hb := bc_ok (P := A) (T := B) hno hz hg
    rw [hb, bl_ok hno hb, bq_ok hb]
    exact ⟨rfl, by omega, rfl⟩
  · have hb := bc_size (P := A) (T := B) hno hz
    rw [hb, bl_no (by rw [hb]; decide), bq_no (by rw [hb]; decide)]
    exact ⟨rfl, rfl, rfl⟩

/-- What is found are the places of the counts that are few. -/
theorem sf_hts (P : Nat → Nat → Bool) (n : Nat) (K : Int) (s : ByteArray) (z : Int) : sf P n K s z = hts (fun t => (((sc P n K s z).getD t 0 : Nat) : Int)) K (sc P n K s z).length := by
  by_cases h : se P n K s.size z = 0
  · rw [sf_ok h, sc_ok h, fnd_hts, cts_len]
    refine hts_congr (fun i hi => ?_)
    have hl : i < (cts P n K s).length := by rw [cts_len]; exact hi
    have e : (cts P n K s).getD i 0 = mis P s i n := by rw [List.getD_eq_getElem?_getD, List.getElem?_eq_getElem hl, cts_at]; rfl
    rw [e]
  · rw [sf_no h, sc_no h]
    rfl

theorem sq_le {P : Nat → Nat → Bool} {n m : Nat} {K z : Int} (h : rgt P n K = true) : (0 ≤ ((kd P n).length : Int) * ct n m z ∧ ((kd P n).length : Int) * ct n m z ≤ 422212465066176) ∧ ∀ k : Nat, k ≤ (kd P n).length → 0 ≤ (k : Int) * ct n m z ∧ (k : Int) * ct n m z ≤ 422212465066176 := by
  obtain ⟨h1, h64, _, _⟩ := rgt_len h
  have hk := kd_len P n
  obtain ⟨c0, c1⟩ := ct_small11 (n := n) (m := m) (z := z)
  have all : ∀ k : Nat, k ≤ (kd P n).length → 0 ≤ (k : Int) * ct n m z ∧ (k : Int) * ct n m z ≤ 422212465066176 := fun k hk2 => by
    have g1 : (k : Int) * ct n m z ≤ 64 * 6597069766659 := Int.mul_le_mul (by omega) c1 c0 (by omega)
    have g2 : 0 ≤ (k : Int) * ct n m z := Int.mul_nonneg (by omega) c0
    omega
  exact ⟨all _ (Nat.le_refl _), all⟩

/-- One of a class's rows: its elements. -/
def kp (P : Nat → Nat → Bool) (c : Nat → Bool) : Nat → Int := fun j => ((sm (P j) c).toNat : Int)

/-- Its marks. -/
def km (s : ByteArray) (c : Nat → Bool) : Nat → Int := fun t => ((c (byt s t)).toNat : Int)

theorem bool_le (b : Bool) : (0 : Int) ≤ (b.toNat : Int) ∧ (b.toNat : Int) ≤ 1 := by cases b <;> decide

theorem hk_cr (P : Nat → Nat → Bool) (s : ByteArray) (i : Nat) (c : Nat → Bool) (m : Nat) : Res.cr m (kp P c) (km s c) i = hk P s i c m := rfl

end Cls

end Go.Proofs.YtlogdjhnhnfbkaaDoor

namespace Go.Proofs.YtlogdjhnhnfbkaaDoor
open Go.RowKit

/-- What is handed over abides that a block which is a loop's record is written. -/
def EncAbid {α : Type} (E : α → Array Value → World → Prop) : Prop :=
  ∀ x vs W l r r', W.heap[l]? = some (.loop r) → E x vs W → E x vs (W.putObj l (.loop r'))

/-- As SeqM: but what is handed over for a thing is whatever stands in the relation E to it, there and then. -/
def SeqE {α : Type} (P : Program) (g : Nat) (lb : Array Value) (E : α → Array Value → World → Prop) (A : Nat → Prop) (X : List α) (w : World) : Prop :=
  ∀ (l : Nat) (J Jx : List α → (Nat → Prop) → World → Prop) (W : World), Below w.heap.size w W → Abid W.heap.size J → Abid W.heap.size Jx →
    (∀ pre M x vs W1, J pre M W1 → (∀ k, M k → k < W1.heap.size) → (pre ++ [x]) <+: X → E x vs W1 → YieldAt Fence.wide 7 P l vs W1 fun e W' =>
      Fr M W1 W' ∧ ((e = .returned (.bool true) ∧ J (pre ++ [x]) M W') ∨ (e = .returned (.bool false) ∧ Jx (pre ++ [x]) M W'))) →
    J [] A W →
    Calls P g (#[.func (.yield l) #[] #[]] ++ lb) W fun e W' => (∃ v, e = .returned v) ∧ (J X A W' ∨ (∃ pre, pre <+: X ∧ Jx pre A W'))

theorem SeqE.later {α : Type} {P : Program} {g : Nat} {lb : Array Value} {E : α → Array Value → World → Prop} {A : Nat → Prop} {X : List α} {w w' : World} (h : SeqE P g lb E A X w) (hb : Below w.heap.size w w') : SeqE P g lb E A X w' :=
  fun l J Jx W hW => h l J Jx W (hb.trans (hW.mono hb.size))

/-- The statement 'for .. := range g { .. }' over such a function. -/
theorem wp_seqE {α : Type} {P : Program} {g : Operand} {ps : Array Tmp} {assign body : Code} {Q : Exit → Act → World → Prop} {a : Act} {w : World}
    {gf : Nat} {lb : Array Value} (hg : a.eval g = .func (.func gf) #[] lb) (eg : ∀ args w, (callFunc gf args).run P w = .ok (.enter gf args) w)
    {E : α → Array Value → World → Prop} {A : Nat → Prop} {X : List α} (hseq : SeqE P gf lb E A X w) (hE : EncAbid E) (hps : ∀ x vs W, E x vs W → vs.size = ps.size) (hA : ∀ k, A k → k < w.heap.size)
    (I : List α → (Nat → Prop) → World → Prop) (Ix : Code → List α → (Nat → Prop) → World → Prop) (hI : Abid w.heap.size I) (hIx : ∀ c, Abid w.heap.size (Ix c)) (h0 : I [] A w) (a₁ : Array Value → Act)
    (hassign : ∀ (l : Nat) (x : α) (vs : Array Value) (W : World) (K : Act → World → Prop), E x vs W → K (a₁ vs) W →
      assign.wpIn (Fence.wide.inRound l) 7 P (Exit.then K (fun _ _ _ => False)) { tmps := (ps.zip vs).foldl (fun t (p, v) => t.setIfInBounds p v) a.tmps, defers := [] } W)
    (hbody : ∀ (l : Nat) (pre : List α) (M : Nat → Prop) (x : α) (vs : Array Value) (W : World), E x vs W → I pre M W → (∀ k, M k → k < W.heap.size) → (pre ++ [x]) <+: X → body.wpIn (Fence.wide.inRound l) 7 P (postM M I Ix (pre ++ [x]) W) (a₁ vs) W)
    (hdone : ∀ (D : Nat) (W : World), w.heap.size ≤ D → I X (fun k => A k ∨ k = D) W → W.heap[D]? = some (.deferred (some [])) → Q .normal { a with defers := { target := .collected D, args := #[] } :: a.defers } W)
    (hstop : ∀ (D : Nat) (c : Code) (pre : List α) (W : World), w.heap.size ≤ D → pre <+: X → Ix c pre (fun k => A k ∨ k = D) W → W.heap[D]? = some (.deferred (some [])) → c.wpIn Fence.wide 9 P Q { a with defers := { target := .collected D, args := #[] } :: a.defers } W) :
    (Code.rangeFunc g ps assign body).wpIn Fence.wide 9 P Q a w := by
  refine wpIn_rangeFunc fun fn _ => ?_
  obtain ⟨B, hB⟩ : ∃ B, w.heap.size = B := ⟨_, rfl⟩
  rw [hB] at hA hI hIx hdone hstop
  let rc : LoopState → Option Code → Obj := fun st pe => .loop { state := st, pending := pe, fn, tmps := a.tmps, params := ps, assign, body, defers := B }
  -- the two blocks that are laid
  obtain ⟨W1, hW1⟩ : ∃ W1, (w.alloc (.deferred (some []))).alloc (rc .ready none) = W1 := ⟨_, rfl⟩
  have sz1 : W1.heap.size = B + 2 := by rw [← hW1, World.size_alloc, World.size_alloc, hB]
  have r1 : W1.heap[B + 1]? = some (rc .ready none) := by
    have h := World.alloc_heap_new (w.alloc (.deferred (some []))) (rc .ready none)
    rw [World.size_alloc, hB, hW1] at h
    exact h
  have d1 : W1.heap[B]? = some (.deferred (some [])) := by
    rw [← hW1, Below.heap_alloc _ _ _ (by rw [World.size_alloc]; omega), ← hB]
    exact World.alloc_heap_new w _
  have b1 : Below w.heap.size w W1 := by rw [← hW1]; exact ((Below.refl _ w).alloc (Nat.le_refl _) _).alloc (by simp) _
  -- what is said along the way
  let M2 : (Nat → Prop) → Nat → Prop := fun M k => M k ∨ k = B ∨ k = B + 1
  have up : ∀ {K : List α → (Nat → Prop) → World → Prop}, Abid B K → ∀ (o : Obj), Abid (B + 2) (fun pre M W => K pre (M2 M) W ∧ W.heap[B + 1]? = some o ∧ W.heap[B]? = some (.deferred (some [])) ∧ ¬ M (B + 1)) := by
    intro K hK o s M M' W W' ⟨hk, hr, hd, hn⟩ hf hm
    have l1 : B + 1 < W.heap.size := (Array.getElem?_eq_some_iff.1 hr).1
    refine ⟨hK s (M2 M) (M2 M') W W' hk (hf.mono fun k _ h hM => by have := h (.inl hM); omega) (fun k h => ?_), (hf.block _ l1 (fun _ => by omega)).trans hr, (hf.block _ (by omega) (fun _ => by omega)).trans hd, fun h => (hm _ h).elim hn (by omega)⟩
    rcases h with h | h
    · exact (hm k h).imp .inl id
    · exact .inl (.inr h)
  refine ⟨B + 1, [{ target := .collected B, args := #[] }], W1, { target := .fn (.func gf) lb, args := #[.func (.yield (B + 1)) #[] #[]] }, W1, gf, #[.func (.yield (B + 1)) #[] #[]] ++ lb, W1, ?_, ?_, fun _ _ => trivial, ?_, fun h => (by cases h), callsIn_wide.2 ?_⟩
  · have h := run_enterLoop_outer (P := P) (w := w) fn a.tmps ps assign body
    rw [hB] at h
    rw [← hW1]
    exact h
  · simp only [resolve, hg]
    simp [go_sem]
  · simp [invoke, go_sem, eg]
  refine (hseq (B + 1) (fun pre M W => I pre (M2 M) W ∧ W.heap[B + 1]? = some (rc .ready none) ∧ W.heap[B]? = some (.deferred (some [])) ∧ ¬ M (B + 1))
    (fun pre M W => ∃ c, Ix c pre (M2 M) W ∧ W.heap[B + 1]? = some (rc .done (some c)) ∧ W.heap[B]? = some (.deferred (some [])) ∧ ¬ M (B + 1)) W1 b1
    (by rw [sz1]; exact up hI _) (by rw [sz1]; exact fun s M M' W W' ⟨c, h⟩ hf hm => ⟨c, up (hIx c) _ s M M' W W' h hf hm⟩) ?_ ⟨?_, r1, d1, fun h => by have := hA _ h; omega⟩).mono ?_
  · -- a round
    rintro pre M x vs W ⟨hi, hr, hd, hn⟩ hMb hlen hEx
    have l1 : B + 1 < W.heap.size := (Array.getElem?_eq_some_iff.1 hr).1
    refine ⟨fn, _, assign, body, run_yield (P := P) (args := vs) hr (hps x vs W hEx), roundIn_of_wpIn trivial (hassign _ x vs W _ hEx ?_)⟩
    refine ⟨_, run_beginRound hr rfl, ?_⟩
    obtain ⟨V, hV⟩ : ∃ V, W.putObj (B + 1) (rc .busy none) = V := ⟨_, rfl⟩
    have iV : I pre (M2 M) V := by rw [← hV]; exact hI.put _ hi (.inr (.inr rfl)) (by omega)
    have fV : Fr M W V := by rw [← hV]; exact (Fr.refl _ _).putObj hn _
    have rV : V.heap[B + 1]? = some (rc .busy none) := by rw [← hV]; exact World.putObj_heap_same l1
    have dV : V.heap[B]? = some (.deferred (some [])) := by rw [← hV]; exact (World.putObj_heap_other (by omega)).trans hd
    have lV : B + 1 < V.heap.size := (Array.getElem?_eq_some_iff.1 rV).1
    have e : W.putObj (B + 1) (.loop { state := .busy, pending := none, fn, tmps := a.tmps, params := ps, assign, body, defers := B }) = V := hV
    rw [e]
    have hMV : ∀ k, M2 M k → k < V.heap.size := fun k h => by
      rcases h with h | h | h
      · exact Nat.lt_of_lt_of_le (hMb k h) fV.size
      · omega
      · omega
    refine wpIn_mono (hbody _ pre (M2 M) x vs V (by rw [← hV]; exact hE x vs W _ _ _ hr hEx) iV hMV hlen) ?_
    -- a round's end
    have fin : ∀ (K : List α → (Nat → Prop) → World → Prop) (j : Option Code) (W3 : World), Abid B K → Fr (M2 M) V W3 → K (pre ++ [x]) (M2 M) W3 →
        ∃ W4, (Instr.endRound (B + 1) j).run P W3 = .ok (.bool j.isNone) W4 ∧ Fr M W W4 ∧ K (pre ++ [x]) (M2 M) W4 ∧ W4.heap[B + 1]? = some (rc (if j.isNone then .ready else .done) j) ∧ W4.heap[B]? = some (.deferred (some [])) := by
      intro K j W3 hK hf hk
      have r3 : W3.heap[B + 1]? = some (rc .busy none) := (hf.block _ lV (.inr (.inr rfl))).trans rV
      have l3 : B + 1 < W3.heap.size := (Array.getElem?_eq_some_iff.1 r3).1
      refine ⟨_, run_endRound (P := P) j r3, ((fV.trans (hf.mono fun k _ h => .inl h)).putObj hn _), hK.put _ hk (.inr (.inr rfl)) (by omega), World.putObj_heap_same l3, (World.putObj_heap_other (by omega)).trans ((hf.block _ (by omega) (.inr (.inl rfl))).trans dV)⟩
    rintro ex a3 W3 hp
    cases ex with
    | normal =>
      obtain ⟨W4, q1, q2, q3, q4, q5⟩ := fin I none W3 hI hp.1 hp.2
      exact ⟨_, _, q1, q2, .inl ⟨rfl, q3, q4, q5, hn⟩⟩
    | ret =>
      obtain ⟨W4, q1, q2, q3, q4, q5⟩ := fin (Ix .ret) (some .ret) W3 (hIx _) hp.1 hp.2
      exact ⟨_, _, q1, q2, .inr ⟨rfl, _, q3, q4, q5, hn⟩⟩
    | exit id =>
      obtain ⟨W4, q1, q2, q3, q4, q5⟩ := fin (Ix (.exit id)) (some (.exit id)) W3 (hIx _) hp.1 hp.2
      exact ⟨_, _, q1, q2, .inr ⟨rfl, _, q3, q4, q5, hn⟩⟩
    | goto t =>
      obtain ⟨W4, q1, q2, q3, q4, q5⟩ := fin (Ix (.goto t)) (some (.goto t)) W3 (hIx _) hp.1 hp.2
      exact ⟨_, _, q1, q2, .inr ⟨rfl, _, q3, q4, q5, hn⟩⟩
    | panic _ => exact hp.elim
    | outgrown => exact hp.elim
  · -- the start
    refine hI [] A (M2 A) w W1 h0 (Fr.of_below b1 fun k hk _ => hk) (fun k h => ?_)
    rcases h with h | h | h
    · exact .inl h
    · exact .inr ⟨by omega, by omega⟩
    · exact .inr ⟨by omega, by omega⟩
  · -- behind it
    have out : ∀ (K : List α → (Nat → Prop) → World → Prop) (o : Obj) (xs : List α) (W : World), Abid B K → K xs (M2 A) W → K xs (fun k => A k ∨ k = B) (W.putObj (B + 1) o) := fun K o xs W hK hk => hK.fewer (hK.put o hk (.inr (.inr rfl)) (by omega)) (fun _ h => h.imp id .inl)
    rintro e W2 ⟨⟨v, rfl⟩, (⟨hi, hr, hd, _⟩ | ⟨pre, hS, c, hi, hr, hd, _⟩)⟩
    · exact ⟨none, _, run_endLoop (P := P) hr (by simp), hdone _ _ (Nat.le_refl _) (out I _ X W2 hI hi) ((World.putObj_heap_other (by omega)).trans hd)⟩
    · exact ⟨some c, _, run_endLoop (P := P) hr (by simp), hstop _ c pre _ (Nat.le_refl _) hS (out (Ix c) _ pre W2 (hIx c) hi) ((World.putObj_heap_other (by omega)).trans hd)⟩

section
variable {F : Fence} {n : Nat} {P : Program} {md : Region.Mode} {ops : Array Oper} {Q : Exit → Act → World → Prop} {S : World → Prop}

/-- Whatever order is drawn, S holding behind each operation: at a fence that is no round. -/
def AnyS (F : Fence) (n : Nat) (P : Program) (md : Region.Mode) (ops : Array Oper) (Q : Exit → Act → World → Prop) (S : World → Prop) : Nat → Array Bool → Act → World → Prop
  | 0, l, a, w => Region.ready md ops l = [] ∧ Q .normal a w
  | k + 1, l, a, w => (Region.ready md ops l = [] → Q .normal a w) ∧ ∀ i ∈ Region.ready md ops l, wpOpIn F n P ops Q i (fun a' w' => S w' ∧ AnyS F n P md ops Q S k (l.setIfInBounds i true) a' w') a w

theorem AnyS.any : ∀ (k : Nat) (l : Array Bool) (a : Act) (w : World), AnyS F n P md ops Q S k l a w → wpAnyIn F n P md ops Q k l a w
  | 0, _, _, _, h => h
  | k + 1, _, _, _, h => ⟨h.1, fun i hi => wpOpIn_mono (fun a' w' hh => AnyS.any k _ a' w' hh.2) (h.2 i hi)⟩

/-- The value, as a copy of a constant: what a load that yields v leaves. -/
def asConst (o : Oper) (v : Value) : Oper := { o with op := .move (.const v) }
/-- A copy of what a load's address is, kept nowhere. -/
def asAddr (o : Oper) (x : Operand) : Oper := { o with op := .move x, dst := none }

theorem yields_move {o : Oper} {x : Operand} {v : Value} {a : Act} (hop : o.op = .move x) (hg : o.guard = none) (hx : a.eval x = v) : YieldsFenced P ops o v a := by
  refine ⟨.inl ⟨by simp [Region.wanted, hg], fun w => by simp only [execOp, hop, hx]; rfl⟩, fun w => by unfold Oper.about; rw [hop]⟩

theorem AnyS.take_first {i : Nat} {oi : Oper} {x : Operand} {p v : Value} (hro : F.round = none) (hi : ops[i]? = some oi) (hop : oi.op.operands = #[x]) (hab : ∀ (a : Act) (w : World), oi.about P w a.eval = none) (hg : oi.guard = none)
    (hsel : ∀ (j : Nat) (o : Oper) cs b, ops[j]? = some o → o.op ≠ .select cs b)
    (hQ : ∀ c a w, Q (.panic c) (a.put oi.dst v) w → Q (.panic c) a w)
    (hy : ∀ (a : Act) (w : World), a.eval x = p → S w → (execOp a.eval oi).run P w = .ok (.value v) w) :
    ∀ (k : Nat) (l : Array Bool) (a : Act) (w : World),
      (∀ j oj, ops[j]? = some oj → j ≠ i → l.getD j true = false → (∀ e ∈ oj.after, Region.binds md e = true → e.on ≠ i) → oi.apart ops oj = true) →
      i ∈ Region.ready md ops l → a.eval x = p → S w →
      AnyS F n P md ops Q S k (l.setIfInBounds i true) (a.put oi.dst v) w → AnyS F n P md ops Q S (k + 1) l a w := by
  have own : ∀ {a : Act} {w : World} {K : Act → World → Prop}, a.eval x = p → S w → K (a.put oi.dst v) w → wpOpIn F n P ops Q i K a w := fun {a w K} hx hS hK => by
    refine wpOpIn_step hi (fun K' hK' => ?_)
    rw [if_pos (by simp [Region.wanted, hg])]
    unfold Oper.wpIn
    rw [hro, Oper.semAt_none, hy a w hx hS]
    exact ⟨fun f hf => (by rw [hab] at hf; cases hf), hK' _ _ hK⟩
  intro k
  induction k with
  | zero =>
    intro l a w _ hr hx hS H
    refine ⟨fun h => (by rw [h] at hr; cases hr), fun j hj => ?_⟩
    by_cases hji : j = i
    · subst hji; exact own hx hS ⟨hS, H⟩
    · have := ready_mono hj hji
      rw [H.1] at this
      cases this
  | succ k ih =>
    intro l a w hfree hr hx hS H
    refine ⟨fun h => (by rw [h] at hr; cases hr), fun j hj => ?_⟩
    by_cases hji : j = i
    · subst hji; exact own hx hS ⟨hS, H⟩
    · obtain ⟨hjun, oj, hoj, hall⟩ := mem_ready.1 hj
      have hap := hfree j oj hoj hji hjun (fun e he hb heq => by
        have h1 := hall e he hb
        have h0 := (mem_ready.1 hr).1
        rw [heq] at h1
        rcases Nat.lt_or_ge i l.size with h' | h'
        · simp [h'] at h0 h1; rw [h0] at h1; cases h1
        · simp [Array.getElem?_eq_none h'] at h1)
      obtain ⟨q1, q2, q3⟩ := Oper.apart_spec hap
      have l1 : (asConst oi v).looksAt ops = [] := by simp [Oper.looksAt, asConst, Op.operands, hg]
      have l2 : (asAddr oi x).looksAt ops = oi.looksAt ops := by unfold Oper.looksAt; rw [hop]; rfl
      have ap1 : (asConst oi v).apart ops oj = true := by
        unfold Oper.apart
        rw [l1]
        simp only [asConst]
        cases hd : oi.dst with
        | none => cases oj.dst <;> simp
        | some d =>
          have e1 := q1 d hd
          have e2 := q2 d hd
          cases hoj2 : oj.dst <;> simp_all
      have ap2 : (asAddr oi x).apart ops oj = true := by
        unfold Oper.apart
        rw [l2]
        simp only [asAddr]
        cases hd : oj.dst with
        | none => simp
        | some d => have e3 := q3 d hd; simp [e3]
      have h1 := H.2 j (ready_mono hj hji)
      have s1 : ∀ (o : Oper), (∃ y, o.op = .move y) → ∀ cs b, o.op ≠ .select cs b := fun o ⟨y, hy⟩ cs b hh => by rw [hy] at hh; cases hh
      have h2 := wpOpIn_put (oi := asConst oi v) (v := v) hro hoj ap1 (s1 _ ⟨_, rfl⟩) (fun cs b => hsel j oj cs b hoj) hQ (yields_move (x := .const v) rfl hg rfl) h1
      have h3 := wpOpIn_put (oi := asAddr oi x) (v := p) (a := a) hro hoj ap2 (s1 _ ⟨_, rfl⟩) (fun cs b => hsel j oj cs b hoj) (fun c a w h => h) (yields_move (x := x) rfl hg hx) h2
      refine wpOpIn_mono (fun a' w' h4 => ?_) h3
      obtain ⟨hyx, _, hSw, hA⟩ := h4
      have hx' : a'.eval x = p := by
        rcases hyx.1 with ⟨_, hv⟩ | ⟨hw, _⟩
        · have h5 : Result.ok (Next.value (a'.eval x)) w' = Result.ok (Next.value p) w' := hv w'
          injection h5 with h6 _
          injection h6
        · simp [Region.wanted, asAddr, hg] at hw
      refine ⟨hSw, ih (l.setIfInBounds j true) a' w' (fun m om hm hmi hun hno => ?_) (ready_mono hr (Ne.symm hji)) hx' hSw ?_⟩
      · refine hfree m om hm hmi ?_ hno
        by_cases hjm : j = m
        · subst hjm; exact hjun
        · rw [getD_set_ne true hjm] at hun; exact hun
      · rw [Array.setIfInBounds_comm _ _ hji]
        exact hA

/-- An operation that copies or loads is taken first: what it yields hangs on S alone. -/
theorem AnyS.take {os : List Oper} {i : Nat} {oi : Oper} {x : Operand} {v : Value} {k : Nat} {l : Array Bool} {a : Act} {w : World} (hro : F.round = none) (hi : os[i]? = some oi) (hop : oi.op.operands = #[x]) (hab : ∀ (a : Act) (w : World), oi.about P w a.eval = none) (hg : oi.guard = none)
    (hs : Region.noSelect os.toArray = true) (hf : Region.free md os.toArray l i = true) (hr : (Region.ready md os.toArray l).contains i = true)
    (hQ : ∀ c a w, Q (.panic c) (a.put oi.dst v) w → Q (.panic c) a w)
    (hy : ∀ (a' : Act) (w : World), a'.eval x = a.eval x → S w → (execOp a'.eval oi).run P w = .ok (.value v) w) (hS : S w)
    (h : AnyS F n P md os.toArray Q S k (l.setIfInBounds i true) (a.put oi.dst v) w) : AnyS F n P md os.toArray Q S (k + 1) l a w :=
  AnyS.take_first hro (by simpa using hi) hop hab hg (Region.noSelect_spec hs) hQ hy k l a w (Region.free_spec (by simpa using hi) hf) (by simpa using hr) rfl hS h

/-- An operation comes next, and no other may. -/
theorem AnyS.step {os : List Oper} {i : Nat} {o : Oper} {k : Nat} {l : Array Bool} {a : Act} {w : World} (ho : os[i]? = some o) (hr : Region.ready md os.toArray l = [i]) (hg : o.guard = none)
    (h : ∀ K : Act → World → Prop, Shut (∀ a' w', S w' → AnyS F n P md os.toArray Q S k (l.setIfInBounds i true) a' w' → K a' w') → Oper.wpIn F n P o a w K Q) : AnyS F n P md os.toArray Q S (k + 1) l a w := by
  refine ⟨fun h0 => (by rw [hr] at h0; cases h0), fun j hj => ?_⟩
  rw [hr] at hj
  have e : j = i := by simpa using hj
  subst e
  refine wpOpIn_step (by simpa using ho) (fun K' hK' => ?_)
  rw [if_pos (by simp [Region.wanted, hg])]
  exact h K' (fun a' w' hS hA => hK' _ _ ⟨hS, hA⟩)

theorem AnyS.done {k : Nat} {l : Array Bool} {a : Act} {w : World} (hr : Region.ready md ops l = []) (h : Q .normal a w) : AnyS F n P md ops Q S k l a w := by
  cases k with
  | zero => exact ⟨hr, h⟩
  | succ k => exact ⟨fun _ => h, fun i hi => by rw [hr] at hi; cases hi⟩

/-- A region that draws its order, at a fence. -/
theorem region_any {id : Nat} {a : Act} {w : World} (hm : P.follows .mixedOrders = true)
    (h : AnyS F n P .any ops Q S ops.size (Array.replicate ops.size false) a w.drew) : (Code.region id ops true).wpIn F n P Q a w :=
  wpIn_region_any hm (AnyS.any _ _ _ _ h)

end

end Go.Proofs.YtlogdjhnhnfbkaaDoor

namespace Go.Proofs.YtlogdjhnhnfbkaaDoor
open Go.RowKit Res
namespace Cls

set_option maxHeartbeats 1000000 in
theorem marks1_any (f : Nat → Bool) (s : ByteArray) (bc bs i : Nat) (hi : i < s.size) (w : World) (hc : Fam w bc 0 4 (wi f)) (ht : w.cell? ⟨bs, 0, none⟩ = some (.string s)) :
    Calls Tryd.prog 85 #[.int .i64 (i : Int), .pointer (some ⟨bc, 0, none⟩), .pointer (some ⟨bs, 0, none⟩)] w fun e w' => e = .returned (.bool (f (byt s i))) ∧ Below w.heap.size w w' := by
  obtain ⟨a0, a1, a2, a3⟩ := c4 hc
  have hbt := byt_lt s i
  have hi1 : (i : Int) < (s.size : Int) := by omega
  have hidx := idx_str s i hi
  have HT : Hid (w.cell? ⟨bs, 0, none⟩ = some (.string s)) := ht
  have HC : Hid _ := hc
  have hbc : bc < w.heap.size := hc.lt (by omega)
  have hcc : Hid _ := fun v => has_any f (byt s i) hbt v
  clear hc
  go_enter Tryd.func85, Tryd.ntmps85
  go_wp2_with fail
  go_region_held3 (fun w' => w'.cell? ⟨bc, 0, none⟩ = some (.int .u64 ((wd f 0 : Nat) : Int)) ∧ w'.cell? ⟨bc, 1, none⟩ = some (.int .u64 ((wd f 1 : Nat) : Int)) ∧ w'.cell? ⟨bc, 2, none⟩ = some (.int .u64 ((wd f 2 : Nat) : Int)) ∧ w'.cell? ⟨bc, 3, none⟩ = some (.int .u64 ((wd f 3 : Nat) : Int)) ∧ w'.cell? ⟨bs, 0, none⟩ = some (.string s)) (go_keep)
    (first | (go_at_call 63; refine Calls.mono (hcc.out _) ?_; rintro e w3 ⟨rfl, b3⟩; have b3' : Below w.heap.size w w3 := undrew b3; have HB3 : Hid (Below w.heap.size w w3) := b3'; obtain ⟨m0, m1, m2, m3⟩ := c4 (Fam.below (show Fam w bc 0 4 (wi f) from HC.out) b3' hbc); have m4 : w3.cell? ⟨bs, 0, none⟩ = some (.string s) := (b3'.cell (p := ⟨bs, 0, none⟩) (World.block_lt_of_cell? w _ HT.out)).trans HT.out; clear b3 b3'))
  go_wp2_with fail
  go_ret
  exact ⟨rfl, HB3.out⟩

set_option maxHeartbeats 2000000 in
theorem markedM_any (f : Nat → Bool) (s : ByteArray) (bc bs : Nat) (hs : s.size ≤ 1000000) (w : World) (hc : Fam w bc 0 4 (wi f)) (ht : w.cell? ⟨bs, 0, none⟩ = some (.string s)) :
    Calls Tryd.prog 83 #[.int .i64 ((s.size : Nat) : Int), .func (.func 85) #[] #[.pointer (some ⟨bc, 0, none⟩), .pointer (some ⟨bs, 0, none⟩)]] w (New w s.size (km s f)) := by
  have hmk := makeU (s.size) hs
  have hfu := fu_made w w (s.size) (km s f) (Below.refl _ _)
  generalize Obj.cells (madeCells #[.int .u64 0] (s.size)) 49 = ob at *
  obtain ⟨w2, e2⟩ : ∃ w2, w2 = w.alloc ob := ⟨_, rfl⟩
  rw [← e2] at hfu
  have E2 : Hid _ := e2
  have HF : Hid _ := hfu
  have HCc : Hid (Fam w bc 0 4 (wi f)) := hc
  have HCt : Hid (w.cell? ⟨bs, 0, none⟩ = some (.string s)) := ht
  clear hc ht
  clear hfu e2
  go_enter Tryd.func83, Tryd.ntmps83
  go_wp2_with (first | rw [← E2.out])
  clear E2 hmk
  go_loopw [11] (fun vk wr => ∃ k : Nat, k ≤ s.size ∧ vk = .int .i64 k ∧ Fu w wr w.heap.size (s.size) k (km s f)) (fun vk _ => s.size - (intOf vk).toNat)
  case atStart => exact ⟨0, Nat.zero_le _, rfl, HF.out⟩
  case round =>
    obtain ⟨k, hk, rfl, hF⟩ := hrel
    have HFr : Hid _ := hF
    by_cases hkn : k < s.size
    · have hkI : (k : Int) < ((s.size : Nat) : Int) := by omega
      have cc : Hid _ := marks1_any f s bc bs k hkn wr (HCc.out.below hF.bel (HCc.out.lt (by omega))) ((hF.bel.cell (p := ⟨bs, 0, none⟩) (World.block_lt_of_cell? w _ HCt.out)).trans HCt.out)
      clear hF
      cases hb : f (byt s k) with
      | true =>
        rw [hb] at cc
        have HK : Hid ((1 : Int) = (km s f) k) := by show _ = _; unfold km; rw [hb]; rfl
        clear hb
        go_wp2_with fail
        refine Calls.mono (Hid.out cc) ?_; rintro e w4 ⟨rfl, b4⟩
        have F4 : Hid _ := HFr.out.grow b4
        have hc := F4.out.cell hkn
        have hf := F4.out.wrt.zero k hkn
        have F5 : Hid (Fu w (w4.setCell ⟨w.heap.size, k, none⟩ (.int .u64 1)) w.heap.size (s.size) (k + 1) (km s f)) := F4.out.put (Nat.le_refl _) hkn HK.out
        clear b4
        go_wp2_with fail
        go_roundw
        case rel => exact ⟨k + 1, by omega, by go_num, F5.out⟩
        case measure => simp [intOf]; omega
      | false =>
        rw [hb] at cc
        have HK : Hid ((km s f) k = 0) := by show _ = _; unfold km; rw [hb]; rfl
        clear hb
        go_wp2_with fail
        refine Calls.mono (Hid.out cc) ?_; rintro e w4 ⟨rfl, b4⟩
        have F5 : Hid (Fu w w4 w.heap.size (s.size) (k + 1) (km s f)) := (HFr.out.grow b4).skip HK.out
        clear b4
        go_wp2_with fail
        go_roundw
        case rel => exact ⟨k + 1, by omega, by go_num, F5.out⟩
        case measure => simp [intOf]; omega
    · obtain rfl : k = s.size := by omega
      have HN : Hid _ := HFr.out.new (Nat.le_refl _)
      go_wp2_with fail
      go_ret
      exact HN.out

set_option maxHeartbeats 1000000 in
theorem places1_any (P : Nat → Nat → Bool) (f : Nat → Bool) (bl bc i n cap : Nat) (ao : Option Addr) (hi : i < n) (w : World) (hc : Fam w bc 0 4 (wi f)) (ht : w.cell? ⟨bl, 0, none⟩ = some (.slice ao n cap)) (hl : Lf w ao n P) :
    Calls Tryd.prog 84 #[.int .i64 (i : Int), .pointer (some ⟨bl, 0, none⟩), .pointer (some ⟨bc, 0, none⟩)] w fun e w' => e = .returned (.bool (sm (P i) f)) ∧ Below w.heap.size w w' := by
  obtain ⟨a0, a1, a2, a3⟩ := c4 hc
  have hiI : (i : Int) < (n : Int) := by omega
  have hn := hl.small
  obtain ⟨b, o, rfl, hb, hC⟩ := hl.lies (by omega)
  obtain ⟨c0, c1, c2, c3⟩ := hC.four hi
  clear hc hl hC
  go_enter Tryd.func84, Tryd.ntmps84
  go_wp2_with fail
  go_quiet (fail)
  have HB : Hid (Below w.heap.size w (w.drewN nq)) := below_drewN (Below.refl _ _) nq
  go_wp2_with fail
  go_ret
  exact ⟨rfl, HB.out⟩

set_option maxHeartbeats 2000000 in
theorem markedP_any (P : Nat → Nat → Bool) (f : Nat → Bool) (bl bc n cap : Nat) (ao : Option Addr) (hn : n ≤ 1000000) (w : World) (hc : Fam w bc 0 4 (wi f)) (ht : w.cell? ⟨bl, 0, none⟩ = some (.slice ao n cap)) (hl : Lf w ao n P) :
    Calls Tryd.prog 83 #[.int .i64 ((n : Nat) : Int), .func (.func 84) #[] #[.pointer (some ⟨bl, 0, none⟩), .pointer (some ⟨bc, 0, none⟩)]] w (New w n (kp P f)) := by
  have hmk := makeU (n) hn
  have hfu := fu_made w w (n) (kp P f) (Below.refl _ _)
  generalize Obj.cells (madeCells #[.int .u64 0] (n)) 49 = ob at *
  obtain ⟨w2, e2⟩ : ∃ w2, w2 = w.alloc ob := ⟨_, rfl⟩
  rw [← e2] at hfu
  have E2 : Hid _ := e2
  have HF : Hid _ := hfu
  have HCc : Hid (Fam w bc 0 4 (wi f)) := hc
  have HCt : Hid (w.cell? ⟨bl, 0, none⟩ = some (.slice ao n cap)) := ht
  have HLf : Hid (Lf w ao n P) := hl
  clear hc ht hl
  clear hfu e2
  go_enter Tryd.func83, Tryd.ntmps83
  go_wp2_with (first | rw [← E2.out])
  clear E2 hmk
  go_loopw [11] (fun vk wr => ∃ k : Nat, k ≤ n ∧ vk = .int .i64 k ∧ Fu w wr w.heap.size (n) k (kp P f)) (fun vk _ => n - (intOf vk).toNat)
  case atStart => exact ⟨0, Nat.zero_le _, rfl, HF.out⟩
  case round =>
    obtain ⟨k, hk, rfl, hF⟩ := hrel
    have HFr : Hid _ := hF
    by_cases hkn : k < n
    · have hkI : (k : Int) < ((n : Nat) : Int) := by omega
      have cc : Hid _ := places1_any P f bl bc k n cap ao hkn wr (HCc.out.below hF.bel (HCc.out.lt (by omega))) ((hF.bel.cell (p := ⟨bl, 0, none⟩) (World.block_lt_of_cell? w _ HCt.out)).trans HCt.out) (HLf.out.grow hF.bel)
      clear hF
      cases hb : sm (P k) f with
      | true =>
        rw [hb] at cc
        have HK : Hid ((1 : Int) = (kp P f) k) := by show _ = _; unfold kp; rw [hb]; rfl
        clear hb
        go_wp2_with fail
        refine Calls.mono (Hid.out cc) ?_; rintro e w4 ⟨rfl, b4⟩
        have F4 : Hid _ := HFr.out.grow b4
        have hc := F4.out.cell hkn
        have hf := F4.out.wrt.zero k hkn
        have F5 : Hid (Fu w (w4.setCell ⟨w.heap.size, k, none⟩ (.int .u64 1)) w.heap.size (n) (k + 1) (kp P f)) := F4.out.put (Nat.le_refl _) hkn HK.out
        clear b4
        go_wp2_with fail
        go_roundw
        case rel => exact ⟨k + 1, by omega, by go_num, F5.out⟩
        case measure => simp [intOf]; omega
      | false =>
        rw [hb] at cc
        have HK : Hid ((kp P f) k = 0) := by show _ = _; unfold kp; rw [hb]; rfl
        clear hb
        go_wp2_with fail
        refine Calls.mono (Hid.out cc) ?_; rintro e w4 ⟨rfl, b4⟩
        have F5 : Hid (Fu w w4 w.heap.size (n) (k + 1) (kp P f)) := (HFr.out.grow b4).skip HK.out
        clear b4
        go_wp2_with fail
        go_roundw
        case rel => exact ⟨k + 1, by omega, by go_num, F5.out⟩
        case measure => simp [intOf]; omega
    · obtain rfl : k = n := by omega
      have HN : Hid _ := HFr.out.new (Nat.le_refl _)
      go_wp2_with fail
      go_ret
      exact HN.out

set_option maxHeartbeats 1000000 in
theorem marks_any (f : Nat → Bool) (s : ByteArray) (hs : s.size ≤ 1000000) (w : World) :
    Calls Tryd.prog 71 #[.string s, .agg #[.int .u64 ((wd (f) 0 : Nat) : Int), .int .u64 ((wd (f) 1 : Nat) : Int), .int .u64 ((wd (f) 2 : Nat) : Int), .int .u64 ((wd (f) 3 : Nat) : Int)]] w (New w s.size (km s f)) := by
  obtain ⟨w1, e1⟩ : ∃ w1, w1 = w.alloc (.cells #[.string s] 9) := ⟨_, rfl⟩
  have x1 : Boxed w1 w.heap.size 9 (.string s) := by rw [e1]; exact Boxed.new w _ _
  have b1 : Below w.heap.size w w1 := by rw [e1]; exact (Below.refl _ _).alloc (Nat.le_refl _) _
  obtain ⟨w2, b2⟩ := box w1 f
  have z1 : w.heap.size + 1 = w1.heap.size := by rw [e1, World.size_alloc]
  have ct : w2.cell? ⟨w.heap.size, 0, none⟩ = some (.string s) := (b2.bel.cell (p := ⟨w.heap.size, 0, none⟩) x1.lt).trans x1.cell
  have E1 : Hid _ := e1
  have E2 : Hid _ := b2.eq
  have Z1 : Hid _ := z1
  have cm : Hid _ := markedM_any f s w1.heap.size w.heap.size hs w2 b2.fam ct
  have B2 : Hid (Below w.heap.size w w2) := b1.trans (b2.bel.mono b1.size)
  clear e1 x1 b1 b2 z1
  go_enter Tryd.func71, Tryd.ntmps71
  go_wp2_with (first | rw [← E1.out, ← E2.out, Z1.out])
  refine Calls.mono (Hid.out cm) ?_; rintro e w3 ⟨g, rfl, f3, h3, l3, b3⟩
  have HN : Hid (New w s.size (km s f) (.returned (.slice (some ⟨g, 0, none⟩) s.size s.size)) w3) := ⟨g, rfl, f3, Nat.le_trans B2.out.size h3, l3, B2.out.trans (b3.mono B2.out.size)⟩
  clear f3 h3 l3 b3 E1 E2 Z1 ct cm
  go_wp2_with fail
  go_ret
  exact HN.out

set_option maxHeartbeats 1000000 in
theorem places11_any (P : Nat → Nat → Bool) (f : Nat → Bool) (n cap : Nat) (ao : Option Addr) (K : Int) (hn : n ≤ 1000000) (w : World) (hl : Lf w ao n P) :
    Calls Tryd.prog 70 #[.agg #[.slice ao n cap, .int .i64 K], .agg #[.int .u64 ((wd (f) 0 : Nat) : Int), .int .u64 ((wd (f) 1 : Nat) : Int), .int .u64 ((wd (f) 2 : Nat) : Int), .int .u64 ((wd (f) 3 : Nat) : Int)]] w (New w n (kp P f)) := by
  obtain ⟨w1, b1⟩ := lbox w (.slice ao n cap) (.int .i64 K)
  obtain ⟨w2, b2⟩ := box w1 f
  have z1 : w.heap.size + 1 = w1.heap.size := b1.size.symm
  have s1 : w.heap.size < w1.heap.size := by omega
  have ct := two_below ⟨b1.c0, b1.c1⟩ b2.bel s1
  have c0 := ct.1
  have E1 : Hid _ := b1.eq
  have E2 : Hid _ := b2.eq
  have Z1 : Hid _ := z1
  have cm : Hid _ := markedP_any P f w.heap.size w1.heap.size n cap ao hn w2 b2.fam c0 ((hl.grow b1.bel).grow b2.bel)
  have B2 : Hid (Below w.heap.size w w2) := b1.bel.trans (b2.bel.mono b1.bel.size)
  clear b1 b2 z1 ct hl
  go_enter Tryd.func70, Tryd.ntmps70
  go_wp2_with (first | rw [← E1.out, ← E2.out, Z1.out])
  refine Calls.mono (Hid.out cm) ?_; rintro e w3 ⟨g, rfl, f3, h3, l3, b3⟩
  have HN : Hid (New w n (kp P f) (.returned (.slice (some ⟨g, 0, none⟩) n n)) w3) := ⟨g, rfl, f3, Nat.le_trans B2.out.size h3, l3, B2.out.trans (b3.mono B2.out.size)⟩
  clear f3 h3 l3 b3 E1 E2 Z1 c0 cm
  go_wp2_with fail
  go_ret
  exact HN.out

end Cls

end Go.Proofs.YtlogdjhnhnfbkaaDoor

namespace Go.Proofs.YtlogdjhnhnfbkaaDoor
open Go.RowKit Res
namespace Cls

/-- What the function has caught: a leaf and a text, each in a box. -/
structure Ck (w : World) (bl bs : Nat) (ao : Option Addr) (n cap : Nat) (P : Nat → Nat → Bool) (K : Int) (s : ByteArray) : Prop where
  l0 : w.cell? ⟨bl, 0, none⟩ = some (.slice ao n cap)
  l1 : w.cell? ⟨bl, 1, none⟩ = some (.int .i64 K)
  s0 : w.cell? ⟨bs, 0, none⟩ = some (.string s)
  lf : Lf w ao n P

theorem Ck.grow {w w' : World} {bl bs n cap : Nat} {ao : Option Addr} {P : Nat → Nat → Bool} {K : Int} {s : ByteArray} (h : Ck w bl bs ao n cap P K s) (hb : Below w.heap.size w w') : Ck w' bl bs ao n cap P K s :=
  ⟨(hb.cell (p := ⟨bl, 0, none⟩) (lt_of_cell h.l0)).trans h.l0, (hb.cell (p := ⟨bl, 1, none⟩) (lt_of_cell h.l0)).trans h.l1, (hb.cell (p := ⟨bs, 0, none⟩) (lt_of_cell h.s0)).trans h.s0, h.lf.grow hb⟩

/-- The blocks in which that lies. -/
def Blk2 (bl bs : Nat) (ao : Option Addr) (n k : Nat) : Prop := k = bl ∨ k = bs ∨ (1 ≤ n ∧ ∃ o, ao = some ⟨k, o, none⟩)

/-- A leaf's row, where its blocks are kept. -/
theorem Lf.kept {A : Nat → Prop} {w w' : World} {ao : Option Addr} {n : Nat} {P : Nat → Nat → Bool} (h : Lf w ao n P) (hb : Fr A w w') (hA : ∀ k, k < w.heap.size → (1 ≤ n ∧ ∃ o, ao = some ⟨k, o, none⟩) → A k) : Lf w' ao n P := by
  refine ⟨h.small, fun hn => ?_⟩
  obtain ⟨b, o, e, hlt, hc⟩ := h.lies hn
  exact ⟨b, o, e, Nat.lt_of_lt_of_le hlt hb.size, fun t ht k hk => (hb.cell (p := ⟨b, o + t * 4 + k, none⟩) (hA _ hlt ⟨hn, o, e⟩) hlt).trans (hc t ht k hk)⟩

theorem Ck.kept {A : Nat → Prop} {w w' : World} {bl bs n cap : Nat} {ao : Option Addr} {P : Nat → Nat → Bool} {K : Int} {s : ByteArray} (h : Ck w bl bs ao n cap P K s) (hb : Fr A w w') (hA : ∀ k, k < w.heap.size → Blk2 bl bs ao n k → A k) : Ck w' bl bs ao n cap P K s := by
  have k1 := lt_of_cell h.l0
  have k2 := lt_of_cell h.s0
  exact ⟨(hb.cell (p := ⟨bl, 0, none⟩) (hA _ k1 (.inl rfl)) k1).trans h.l0, (hb.cell (p := ⟨bl, 1, none⟩) (hA _ k1 (.inl rfl)) k1).trans h.l1, (hb.cell (p := ⟨bs, 0, none⟩) (hA _ k2 (.inr (.inl rfl))) k2).trans h.s0, h.lf.kept hb (fun k hk hh => hA k hk (.inr (.inr hh)))⟩

theorem Ck.lt {w : World} {bl bs n cap : Nat} {ao : Option Addr} {P : Nat → Nat → Bool} {K : Int} {s : ByteArray} (h : Ck w bl bs ao n cap P K s) {k : Nat} (hk : Blk2 bl bs ao n k) : k < w.heap.size := by
  rcases hk with rfl | rfl | ⟨hn, o, e⟩
  · exact lt_of_cell h.l0
  · exact lt_of_cell h.s0
  · obtain ⟨b, o', e', hlt, _⟩ := h.lf.lies hn
    rw [e'] at e
    cases e
    exact hlt

/-- The two boxes. -/
theorem ck_new (n cap : Nat) (ao : Option Addr) (P : Nat → Nat → Bool) (K : Int) (s : ByteArray) (w : World) (hl : Lf w ao n P) :
    ∃ w2, w2 = (w.alloc (.cells #[.slice ao n cap, .int .i64 K] 24)).alloc (.cells #[.string s] 9) ∧ Ck w2 w.heap.size (w.heap.size + 1) ao n cap P K s ∧ Below w.heap.size w w2 := by
  obtain ⟨w1, b1⟩ := lbox w (.slice ao n cap) (.int .i64 K)
  have b2 : Below w1.heap.size w1 (w1.alloc (.cells #[.string s] 9)) := (Below.refl _ _).alloc (Nat.le_refl _) _
  have z1 := b1.size
  refine ⟨_, rfl, ?_, ?_⟩
  · rw [← b1.eq]
    refine ⟨(b2.cell (p := ⟨w.heap.size, 0, none⟩) (by show w.heap.size < _; omega)).trans b1.c0, (b2.cell (p := ⟨w.heap.size, 1, none⟩) (by show w.heap.size < _; omega)).trans b1.c1, ?_, (hl.grow b1.bel).grow b2⟩
    have h := (Boxed.new w1 9 (.string s)).cell
    rw [z1] at h
    exact h
  · rw [← b1.eq]
    exact b1.bel.trans (b2.mono (by omega))

set_option maxHeartbeats 1000000 in
theorem kindRows_made (n cap : Nat) (ao : Option Addr) (P : Nat → Nat → Bool) (K : Int) (s : ByteArray) (w : World) (hl : Lf w ao n P) :
    Calls Tryd.prog 55 #[.agg #[.slice ao n cap, .int .i64 K], .string s] w fun e w' => e = .returned (.func (.func 69) #[] #[.pointer (some ⟨w.heap.size, 0, none⟩), .pointer (some ⟨w.heap.size + 1, 0, none⟩)]) ∧ Ck w' w.heap.size (w.heap.size + 1) ao n cap P K s ∧ Below w.heap.size w w' := by
  obtain ⟨w2, e2, hc, hb⟩ := ck_new n cap ao P K s w hl
  have HC : Hid _ := hc
  have HB : Hid _ := hb
  have E2 : Hid _ := e2
  clear hc hb e2
  go_enter Tryd.func55, Tryd.ntmps55
  go_wp2_with fail
  rw [← E2.out]
  go_ret
  exact ⟨rfl, HC.out, HB.out⟩

/-- What is handed over for a kind. -/
def Enk (P : Nat → Nat → Bool) (n : Nat) (s : ByteArray) (c : Nat → Bool) (vs : Array Value) (W : World) : Prop :=
  ∃ g h, vs = #[.slice (some ⟨g, 0, none⟩) n n, .slice (some ⟨h, 0, none⟩) s.size s.size] ∧ Fam W g 0 n (kp P c) ∧ Fam W h 0 s.size (km s c)

theorem fam_record {W : World} {l g o n : Nat} {F : Nat → Int} {r r' : Loop} (hl : W.heap[l]? = some (.loop r)) (h : Fam W g o n F) : Fam (W.putObj l (.loop r')) g o n F := fun t ht => by
  have hc := h t ht
  have hne : g ≠ l := fun e => by
    subst e
    unfold World.cell? at hc
    rw [hl] at hc
    cases hc
  rw [← hc]
  exact World.cell?_of_block (World.putObj_heap_other hne)

theorem enk_abid (P : Nat → Nat → Bool) (n : Nat) (s : ByteArray) : EncAbid (Enk P n s) := fun _ _ _ _ _ _ hl ⟨g, h, e, h1, h2⟩ => ⟨g, h, e, fam_record hl h1, fam_record hl h2⟩

/-- What the region that hands over reads. -/
def Skr (bl bs g : Nat) (ao : Option Addr) (n cap : Nat) (K : Int) (s : ByteArray) (c : Nat → Bool) (v : World) : Prop :=
  (v.cell? ⟨bl, 0, none⟩ = some (.slice ao n cap) ∧ v.cell? ⟨bl, 1, none⟩ = some (.int .i64 K)) ∧ v.cell? ⟨bs, 0, none⟩ = some (.string s) ∧ v.cell? ⟨g, 0, none⟩ = some (.int .u64 ((wd c 0 : Nat) : Int)) ∧ v.cell? ⟨g, 1, none⟩ = some (.int .u64 ((wd c 1 : Nat) : Int)) ∧ v.cell? ⟨g, 2, none⟩ = some (.int .u64 ((wd c 2 : Nat) : Int)) ∧ v.cell? ⟨g, 3, none⟩ = some (.int .u64 ((wd c 3 : Nat) : Int))

theorem Skr.of {bl bs g n cap : Nat} {ao : Option Addr} {P : Nat → Nat → Bool} {K : Int} {s : ByteArray} {c : Nat → Bool} {v : World} (h : Ck v bl bs ao n cap P K s) (f : Fam v g 0 4 (wi c)) : Skr bl bs g ao n cap K s c v := by
  obtain ⟨a0, a1, a2, a3⟩ := c4 f
  exact ⟨⟨h.l0, h.l1⟩, h.s0, a0, a1, a2, a3⟩

theorem kinds_le (P : Nat → Nat → Bool) (n : Nat) : (kd P n).length ≤ n := kd_len P n

theorem take_succ_kd (P : Nat → Nat → Bool) (n k : Nat) (h : k < (kd P n).length) : (kd P n).take k ++ [at' (kd P n) k] = (kd P n).take (k + 1) := by
  rw [List.take_add_one, List.getElem?_eq_getElem h]
  unfold at'
  simp [h]

set_option maxRecDepth 100000 in
set_option maxHeartbeats 4000000 in
theorem kindRows_seq (bl bs n cap : Nat) (ao : Option Addr) (P : Nat → Nat → Bool) (K : Int) (s : ByteArray) (hs : s.size ≤ 1000000) (hn : n ≤ 1000000) (w : World) (hc : Ck w bl bs ao n cap P K s) :
    SeqE Tryd.prog 69 #[.pointer (some ⟨bl, 0, none⟩), .pointer (some ⟨bs, 0, none⟩)] (Enk P n s) (Blk2 bl bs ao n) (kd P n) w := fun l J Jx W hW hJ hJx hY h0 => by
  have hC := hc.grow hW
  have HY : Hid _ := hY
  have H0 : Hid _ := h0
  have HJ : Hid (Abid W.heap.size J) := hJ
  have HJx : Hid (Abid W.heap.size Jx) := hJx
  have HCk : Hid _ := hC
  have l0 := hC.l0
  have l1 := hC.l1
  have cr : Hid _ := kinds_core P n cap ao K W hC.lf
  have hkl := kinds_le P n
  have HTS : Hid _ := take_succ_kd P n
  have HTA : Hid ((kd P n).take (kd P n).length = kd P n) := List.take_length
  have HPX : Hid (∀ k, k < (kd P n).length → (kd P n).take k ++ [at' (kd P n) k] <+: kd P n) := fun k hk => by rw [take_succ_kd P n k hk]; exact List.take_prefix _ _
  have HT0 : Hid ((kd P n).take 0 = []) := List.take_zero
  obtain ⟨L, hL⟩ : ∃ L, kd P n = L := ⟨_, rfl⟩
  rw [hL] at cr HY hkl HTS HTA HPX HT0 ⊢
  obtain ⟨m, hm⟩ : ∃ m, L.length = m := ⟨_, rfl⟩
  rw [hm] at cr hkl HTS HTA HPX
  clear hY hJ hJx hW h0 hC hc hm hL
  refine (callsIn_wide (n := 9)).1 (callsIn_of_wp Tryd.func69 rfl trivial ?_ rfl)
  refine wpIn_wide.2 ?_
  simp only [Tryd.ntmps69, List.size_toArray, List.length_cons, List.length_nil, Nat.reduceAdd, Nat.reduceSub, Array.replicate_succ, Array.replicate_zero, List.push_toArray, List.append_toArray, List.nil_append, List.cons_append]
  go_wp2_with fail
  refine Calls.mono (Hid.out cr) ?_; rintro e W2 ⟨⟨bo, d, rfl, lk, hnew⟩, b2⟩
  have H2 : Hid (J [] (fun k => Blk2 bl bs ao n k ∨ (W.heap.size ≤ k ∧ k < W2.heap.size)) W2) := HJ.out.grow H0.out b2
  have C2 : Hid (Ck W2 bl bs ao n cap P K s) := HCk.out.grow b2
  have LK2 : Hid (Lf W2 bo m (at' L)) := lk
  have HN2 : Hid (∀ k, (1 ≤ m ∧ ∃ o, bo = some ⟨k, o, none⟩) → W.heap.size ≤ k ∧ k < W2.heap.size) := fun k ⟨h1, o, e⟩ => by
    obtain ⟨g, e2, hg⟩ := hnew h1
    obtain ⟨b, o', e3, hlt, _⟩ := lk.lies h1
    rw [e2] at e e3
    cases e
    cases e3
    exact ⟨hg, hlt⟩
  have HB2 : Hid (Below W.heap.size W W2) := b2
  clear b2 cr l0 l1 H0 lk hnew
  go_wp2_with fail
  refine (wpIn_wide (n := 9)).1 ?_
  obtain ⟨M0, hM0⟩ : ∃ M0 : Nat → Prop, (fun k => Blk2 bl bs ao n k ∨ (W.heap.size ≤ k ∧ k < W2.heap.size)) = M0 := ⟨_, rfl⟩
  have HM0 : Hid _ := hM0
  rw [hM0] at H2
  have HMa : Hid (∀ k, Blk2 bl bs ao n k → M0 k) := fun k h => by rw [← hM0]; exact .inl h
  have HMb : Hid (∀ k, (1 ≤ m ∧ ∃ o, bo = some ⟨k, o, none⟩) → M0 k) := fun k h => by rw [← hM0]; exact .inr (HN2.out k h)
  have HMc : Hid (∀ k, M0 k → k < W2.heap.size) := fun k h => by
    rw [← hM0] at h
    rcases h with h | h
    · exact C2.out.lt h
    · exact h.2
  clear hM0
  gi_loopw [9] (fun p wr => ∃ k : Nat, p = .int .i64 (k : Int) ∧ k ≤ m ∧ J (L.take k) M0 wr ∧ Fr M0 W2 wr) (fun p _ => m - (intOf p).toNat)
  case atStart => exact ⟨0, rfl, Nat.zero_le _, by rw [HT0.out]; exact H2.out, Fr.refl _ _⟩
  case round =>
    obtain ⟨k, rfl, hk, hJ, hF⟩ := hrel
    have HJr : Hid _ := hJ
    have HFr : Hid (Fr M0 W2 wr) := hF
    have CR : Hid (Ck wr bl bs ao n cap P K s) := C2.out.kept hF (fun j _ hB => HMa.out j hB)
    have LR : Lf wr bo m (at' L) := LK2.out.kept hF (fun j _ hB => HMb.out j hB)
    have hMw : Hid (∀ k, M0 k → k < wr.heap.size) := fun k h => Nat.lt_of_lt_of_le (HMc.out k h) hF.size
    clear hJ hF
    by_cases hkm : k < m
    · have hkI : (k : Int) < (m : Int) := by omega
      obtain ⟨b, o, rfl, hb, hC⟩ := LR.lies (by omega)
      obtain ⟨c0, c1, c2, c3⟩ := hC.four hkm
      have HTk : Hid _ := HTS.out k hkm
      have HPk : Hid _ := HPX.out k hkm
      generalize at' L k = c at *
      obtain ⟨w3, b3⟩ := box wr c
      have E3 : Hid _ := b3.eq
      have HB3 : Hid (Below wr.heap.size wr w3) := b3.bel
      have F3 : Hid (Fam w3 wr.heap.size 0 4 (wi c)) := b3.fam
      have s3 : wr.heap.size < w3.heap.size := by have := b3.size; omega
      clear hC b3 LR
      gi_wp2_with (first | rw [← E3.out])
      have C3 : Ck w3.drew bl bs ao n cap P K s := CR.out.grow HB3.out.drew
      have F3' : Fam w3.drew wr.heap.size 0 4 (wi c) := Fam.drew F3.out
      have hS := Skr.of C3 F3'
      refine region_any (S := Skr bl bs wr.heap.size ao n cap K s c) (by kernel_rfl) ?_
      refine AnyS.take (i := 0) (v := .func (.yield l) #[] #[]) rfl rfl rfl (fun _ _ => rfl) rfl (by kernel_rfl) (by kernel_rfl) (by kernel_rfl) (fun _ _ _ h => h) (fun a' w' h _ => by simp only [execOp]; rw [h]; rfl) hS ?_
      try simp only [Act.put, List.setIfInBounds_toArray, List.set_cons_zero, List.set_cons_succ]
      refine AnyS.take (i := 1) (v := .agg #[.slice ao n cap, .int .i64 K]) rfl rfl rfl (fun _ _ => rfl) rfl (by kernel_rfl) (by kernel_rfl) (by kernel_rfl) (fun _ _ _ h => h) (fun a' w' h ⟨⟨q0, q1⟩, _⟩ => by simp only [execOp]; rw [h]; go_simp) hS ?_
      try simp only [Act.put, List.setIfInBounds_toArray, List.set_cons_zero, List.set_cons_succ]
      refine AnyS.take (i := 2) (v := .agg #[.int .u64 ((wd (c) 0 : Nat) : Int), .int .u64 ((wd (c) 1 : Nat) : Int), .int .u64 ((wd (c) 2 : Nat) : Int), .int .u64 ((wd (c) 3 : Nat) : Int)]) rfl rfl rfl (fun _ _ => rfl) rfl (by kernel_rfl) (by kernel_rfl) (by kernel_rfl) (fun _ _ _ h => h) (fun a' w' h ⟨_, _, q0, q1, q2, q3⟩ => by simp only [execOp]; rw [h]; go_simp) hS ?_
      try simp only [Act.put, List.setIfInBounds_toArray, List.set_cons_zero, List.set_cons_succ]
      refine AnyS.take (i := 4) (v := .string s) rfl rfl rfl (fun _ _ => rfl) rfl (by kernel_rfl) (by kernel_rfl) (by kernel_rfl) (fun _ _ _ h => h) (fun a' w' h ⟨_, q0, _⟩ => by simp only [execOp]; rw [h]; go_simp) hS ?_
      try simp only [Act.put, List.setIfInBounds_toArray, List.set_cons_zero, List.set_cons_succ]
      refine AnyS.take (i := 5) (v := .agg #[.int .u64 ((wd (c) 0 : Nat) : Int), .int .u64 ((wd (c) 1 : Nat) : Int), .int .u64 ((wd (c) 2 : Nat) : Int), .int .u64 ((wd (c) 3 : Nat) : Int)]) rfl rfl rfl (fun _ _ => rfl) rfl (by kernel_rfl) (by kernel_rfl) (by kernel_rfl) (fun _ _ _ h => h) (fun a' w' h ⟨_, _, q0, q1, q2, q3⟩ => by simp only [execOp]; rw [h]; go_simp) hS ?_
      try simp only [Act.put, List.setIfInBounds_toArray, List.set_cons_zero, List.set_cons_succ]
      refine AnyS.step (i := 3) rfl (by kernel_rfl) rfl (fun K1 hK1 => ?_)
      go_simp
      refine ⟨trivial, callsIn_wide.2 (Calls.mono (places11_any P c n cap ao K hn w3.drew C3.lf) ?_)⟩
      rintro e w4 ⟨g, rfl, f4, _, lg4, b4⟩
      have HB4 : Below wr.heap.size wr w4 := HB3.out.drew.trans (b4.mono HB3.out.size)
      have C4 := C3.grow b4
      have F4 : Fam w4 wr.heap.size 0 4 (wi c) := F3'.below b4 s3
      refine hK1.out _ _ (Skr.of C4 F4) ?_
      clear hK1 K1
      try simp only [Act.put, List.setIfInBounds_toArray, List.set_cons_zero, List.set_cons_succ]
      refine AnyS.step (i := 6) rfl (by kernel_rfl) rfl (fun K1 hK1 => ?_)
      go_simp
      refine ⟨trivial, callsIn_wide.2 (Calls.mono (marks_any c s hs w4) ?_)⟩
      rintro e w5 ⟨h, rfl, f5, _, lh5, b5⟩
      have HB5 : Below wr.heap.size wr w5 := HB4.trans (b5.mono HB4.size)
      have C5 := C4.grow b5
      have F5 : Fam w5 wr.heap.size 0 4 (wi c) := F4.below b5 (Nat.lt_of_lt_of_le s3 b4.size)
      have hE : Enk P n s c #[.slice (some ⟨g, 0, none⟩) n n, .slice (some ⟨h, 0, none⟩) s.size s.size] w5 := ⟨g, h, rfl, f4.below b5 lg4, f5⟩
      have s5 : wr.heap.size < w5.heap.size := Nat.lt_of_lt_of_le s3 (Nat.le_trans b4.size b5.size)
      have hJ5 := HJ.out.grow HJr.out HB5
      obtain ⟨M1, hM1⟩ : ∃ M1 : Nat → Prop, (fun k => M0 k ∨ (wr.heap.size ≤ k ∧ k < w5.heap.size)) = M1 := ⟨_, rfl⟩
      rw [hM1] at hJ5
      have HMd : Hid (∀ k, M0 k → M1 k) := fun k h => by rw [← hM1]; exact .inl h
      have HMe : Hid (M1 wr.heap.size) := by show M1 _; rw [← hM1]; exact .inr ⟨Nat.le_refl _, s5⟩
      have hM5 : ∀ k, M1 k → k < w5.heap.size := fun k h => by
        rw [← hM1] at h
        rcases h with h | h
        · exact Nat.lt_of_lt_of_le (hMw.out k h) HB5.size
        · exact h.2
      obtain ⟨fn, tmps, assign, body, hy, hR⟩ := HY.out (L.take k) M1 c _ w5 hJ5 hM5 HPk.out hE
      have hRR : Hid _ := hR
      have HS5 : Hid _ := Skr.of C5 F5
      have HC5 : Hid _ := C5
      have HF5 : Hid (Fam w5 wr.heap.size 0 4 (wi c)) := F5
      have HB5' : Hid (Below wr.heap.size wr w5) := HB5
      refine hK1.out _ _ HS5.out ?_
      clear hK1 K1 hR hS C3 F3' C4 F4 C5 F5 HB4 HB5 b4 b5 f4 f5 hE hJ5 hM5 hM1
      try simp only [Act.put, List.setIfInBounds_toArray, List.set_cons_zero, List.set_cons_succ]
      refine AnyS.step (i := 7) rfl (by kernel_rfl) rfl (fun K1 hK1 => ?_)
      go_simp
      refine RoundIn.mono (RoundIn.anyN (Hid.out hRR)) ?_
      rintro e W3 ⟨hfr, hcase⟩
      have C6 : Ck W3 bl bs ao n cap P K s := HC5.out.kept hfr (fun j _ hB => HMd.out j (HMa.out j hB))
      have F6 : Fam W3 wr.heap.size 0 4 (wi c) := fun t ht => (hfr.cell (p := ⟨wr.heap.size, 0 + t, none⟩) HMe.out s5).trans ((show Fam w5 wr.heap.size 0 4 (wi c) from HF5.out) t ht)
      have hS6 := Skr.of C6 F6
      have HF0 : Hid (Fr M0 W2 W3) := HFr.out.trans ((Fr.of_below HB5'.out (fun _ hk _ => hk)).trans (hfr.mono (fun k _ h => HMd.out k h)))
      rcases hcase with ⟨rfl, hJ3⟩ | ⟨rfl, hJx3⟩
      · have HJ3 : Hid (J (L.take (k + 1)) M0 W3) := by show J _ _ _; rw [← HTk.out]; exact HJ.out.fewer hJ3 (fun k h => HMd.out k h)
        refine hK1.out _ _ hS6 ?_
        clear hK1 K1 hJ3 hfr C6 F6 hRR hy
        try simp only [Act.put, List.setIfInBounds_toArray, List.set_cons_zero, List.set_cons_succ]
        refine AnyS.take (i := 8) (v := .bool false) rfl rfl rfl (fun _ _ => rfl) rfl (by kernel_rfl) (by kernel_rfl) (by kernel_rfl) (fun _ _ _ h => h) (fun a' w' h _ => by simp only [execOp]; rw [h]; go_simp) hS6 ?_
        try simp only [Act.put, List.setIfInBounds_toArray, List.set_cons_zero, List.set_cons_succ]
        refine AnyS.done (by kernel_rfl) ?_
        clear hS6
        gi_wp2
        go_roundw
        case rel => exact ⟨k + 1, by go_num, by omega, HJ3.out, HF0.out⟩
        case measure => simp [intOf]; omega
      · have HJ3 : Hid (Jx (L.take k ++ [c]) (Blk2 bl bs ao n) W3) := HJx.out.fewer hJx3 (fun k h => HMd.out k (HMa.out k h))
        refine hK1.out _ _ hS6 ?_
        clear hK1 K1 hJx3 hfr C6 F6 hRR hy
        try simp only [Act.put, List.setIfInBounds_toArray, List.set_cons_zero, List.set_cons_succ]
        refine AnyS.take (i := 8) (v := .bool true) rfl rfl rfl (fun _ _ => rfl) rfl (by kernel_rfl) (by kernel_rfl) (by kernel_rfl) (fun _ _ _ h => h) (fun a' w' h _ => by simp only [execOp]; rw [h]; go_simp) hS6 ?_
        try simp only [Act.put, List.setIfInBounds_toArray, List.set_cons_zero, List.set_cons_succ]
        refine AnyS.done (by kernel_rfl) ?_
        clear hS6
        gi_wp2
        refine bodyPost_ret (results_none rfl _ _ _) rfl ?_
        exact ⟨⟨_, rfl⟩, .inr ⟨_, HPk.out, HJ3.out⟩⟩
    · obtain rfl : k = m := by omega
      gi_wp2
      go_end0
      exact ⟨⟨_, rfl⟩, .inl (by have := HJ.out.fewer HJr.out (M' := Blk2 bl bs ao n) (fun k h => HMa.out k h); rw [HTA.out] at this; exact this)⟩

end Cls

end Go.Proofs.YtlogdjhnhnfbkaaDoor

namespace Go.Proofs.YtlogdjhnhnfbkaaDoor
open Go.RowKit Res
namespace Cls

/-- A row of n numbers at the head of block g. -/
structure Ri (w : World) (g n : Nat) (F : Nat → Int) : Prop where
  row : ∃ cur : Array Value, w.heap[g]? = some (.cells cur 3) ∧ cur.size = n ∧ ∀ t, t < n → cur[t]? = some (.int .i64 (F t))

theorem Ri.cell {w : World} {g n : Nat} {F : Nat → Int} (h : Ri w g n F) {t : Nat} (ht : t < n) : w.cell? ⟨g, t, none⟩ = some (.int .i64 (F t)) := by
  obtain ⟨cur, hg, _, hc⟩ := h.row
  unfold World.cell?
  rw [hg]
  exact hc t ht

theorem Ri.frozen {w : World} {g n : Nat} {F : Nat → Int} (h : Ri w g n F) (t : Nat) : w.frozen? ⟨g, t, none⟩ = false := by
  obtain ⟨cur, hg, _, _⟩ := h.row
  unfold World.frozen?
  rw [hg]
  simp

theorem Ri.lt {w : World} {g n : Nat} {F : Nat → Int} (h : Ri w g n F) : g < w.heap.size := by
  obtain ⟨cur, hg, _, _⟩ := h.row
  exact (Array.getElem?_eq_some_iff.1 hg).1

theorem Ri.block {w w' : World} {g n : Nat} {F : Nat → Int} (h : Ri w g n F) (e : w'.heap[g]? = w.heap[g]?) : Ri w' g n F := by
  obtain ⟨cur, hg, hr⟩ := h.row
  exact ⟨cur, e.trans hg, hr⟩

theorem Ri.grow {w w' : World} {g n : Nat} {F : Nat → Int} (h : Ri w g n F) (hb : Below w.heap.size w w') : Ri w' g n F := h.block (hb.block g h.lt)

theorem Ri.congr {w : World} {g n : Nat} {F G : Nat → Int} (h : Ri w g n F) (e : ∀ t, t < n → F t = G t) : Ri w g n G := by
  obtain ⟨cur, hg, hs, hc⟩ := h.row
  exact ⟨cur, hg, hs, fun t ht => by rw [hc t ht, e t ht]⟩

theorem Ri.put {w : World} {g n : Nat} {F : Nat → Int} (h : Ri w g n F) (k : Nat) (x : Int) : Ri (w.setCell ⟨g, k, none⟩ (.int .i64 x)) g n (upd F k x) := by
  obtain ⟨cur, hg, hs, hc⟩ := h.row
  refine ⟨cur.setIfInBounds k (.int .i64 x), ?_, by simp [hs], fun t ht => ?_⟩
  · rw [setCell_eq_setRow w g k cur 3 (0, 0) _ hg]
    exact setRow_heap w g cur _ _ _ hg
  · by_cases e : t = k
    · subst e
      rw [upd_at]
      simp [hs, ht]
    · rw [upd_off e, ← hc t ht]
      simp [Ne.symm e]

theorem Ri.ir {w : World} {g n : Nat} {F : Nat → Int} (h : Ri w g n F) : Ir w (some ⟨g, 0, none⟩) n F := fun _ => ⟨g, 0, rfl, h.lt, fun t ht => by rw [Nat.zero_add]; exact h.cell ht⟩

theorem Ri.is {w : World} {g : Nat} {L : List Nat} {F : Nat → Int} (h : Ri w g L.length F) (e : ∀ t, (ht : t < L.length) → F t = ((L[t] : Nat) : Int)) : Is w (some ⟨g, 0, none⟩) L := fun _ => ⟨g, rfl, h.lt, fun t ht => by rw [h.cell ht, e t ht]⟩

theorem infoN : (Tryd.prog.info? 3).map (fun i => (i.zero, i.size, i.bytes)) = some (some (.int .i64 0), 1, 8) := by kernel_rfl

theorem ri_made (w : World) (n : Nat) : Ri (w.alloc (.cells (madeCells #[.int .i64 0] n) 3)) w.heap.size n (fun _ => 0) := by
  obtain ⟨c, hb, hn, hc⟩ := World.rowIs_made w (.int .i64 0) n 3
  exact ⟨c, hb, hn, fun t ht => hc t ht⟩

theorem makeI (n : Nat) (hn : n ≤ 10000000) (w : World) : (Instr.makeSlice 34 (.int .i64 (n : Int)) (.int .i64 (n : Int))).run Tryd.prog w = .ok (.slice (some ⟨w.heap.size, 0, none⟩) n n) (w.alloc (.cells (madeCells #[.int .i64 0] n) 3)) :=
  run_make_row' (P := Tryd.prog) 34 3 (.int .i64 0) 8 Tryd.underlying34 infoN rfl .i64 .i64 n (by omega) (by omega) w

/-- Numbers that are all the same, copied into a row from place k on. -/
theorem ri_copy (w : World) (g k c j cap sl sc : Nat) (a : Addr) (F : Nat → Int) (B : Int) (h : Ri w g c F) (hk : k ≤ c) (hj : j = min sl (c - k)) (hsrc : ∀ t, t < j → w.cell? (a.add t) = some (.int .i64 B)) :
    ∃ w2, (Builtin.copy_ #[34, 34] 3 #[.slice (some ⟨g, k, none⟩) (c - k) cap, .slice (some a) sl sc]).run Tryd.prog w = .ok (.int .i64 (j : Int)) w2 ∧ Ri w2 g c (fun t => if k ≤ t ∧ t < k + j then B else F t) ∧ Below g w w2 := by
  obtain ⟨cur, hg, hs, hc⟩ := h.row
  have hl : (List.replicate j (Value.int .i64 B)).length = j := List.length_replicate ..
  have hr := run_copy_row (P := Tryd.prog) w 34 34 3 3 g k (c - k) cap a sl sc cur 3 (List.replicate j (.int .i64 B)) Tryd.underlying34 (by kernel_rfl) hg (by rw [hl]; omega) (fun t v hv => by
    rw [List.getElem?_replicate] at hv
    split at hv
    · rename_i ht; cases hv; exact hsrc t ht
    · cases hv) (by rw [hl, hs]; omega) (fun v hv => by rw [List.mem_replicate] at hv; rw [hv.2]; rfl)
  rw [hl] at hr
  refine ⟨_, hr, ⟨_, setRow_heap w g cur _ 3 (0, 0) hg, ?_, fun t ht => ?_⟩, ?_⟩
  · simp [hs]; omega
  · have hct := hc t ht
    simp only [List.getElem?_toArray, List.append_assoc]
    have ht0 : (cur.toList.take k).length = k := by simp [hs]; omega
    by_cases h1 : t < k
    · rw [List.getElem?_append_left (by omega), if_neg (by omega), List.getElem?_take_of_lt h1, Array.getElem?_toList]
      exact hct
    · rw [List.getElem?_append_right (by omega), ht0]
      by_cases h2 : t < k + j
      · rw [if_pos ⟨by omega, h2⟩, List.getElem?_append_left (by rw [hl]; omega), List.getElem?_replicate, if_pos (by omega)]
      · rw [if_neg (by omega), List.getElem?_append_right (by rw [hl]; omega), hl, List.getElem?_drop, show k + j + (t - k - j) = t by omega, Array.getElem?_toList]
        exact hct
  · exact below_setRow (Below.refl _ _) (Nat.le_refl _) _

theorem mul_any (x y : Int) (hx0 : 0 ≤ x) (hy0 : 0 ≤ y) (hx : x < 18446744073709551616) (hy : y < 18446744073709551616) (w : World) :
    Calls Tryd.prog 68 #[.int .u64 x, .int .u64 y] w fun e w' => e = .returned (.tuple #[.int .u64 (x * y / 18446744073709551616), .int .u64 (x * y % 18446744073709551616)]) ∧ w' = w := by
  have c1 : Hid _ := mul64_any x y hx0 hy0 hx hy w
  generalize x * y / 18446744073709551616 = p at *
  generalize x * y % 18446744073709551616 = q at *
  go_enter Tryd.func68, Tryd.ntmps68
  go_wp2_with fail
  refine Calls.mono (Hid.out c1) ?_; rintro e w' ⟨rfl, hw'⟩; subst w'
  go_wp2_with fail
  refine bodyPost_ret (results_tmp2 rfl _ _ _) rfl ?_
  exact ⟨rfl, rfl⟩

set_option maxRecDepth 100000 in
set_option maxHeartbeats 4000000 in
theorem repeat_any (B : Int) (y c cap : Nat) (hc1 : 1 ≤ c) (hc : c ≤ 1000001) (w : World) (hy : w.cell? ⟨y, 0, none⟩ = some (.int .i64 B)) :
    Calls Tryd.prog 54 #[.slice (some ⟨y, 0, none⟩) 1 cap, .int .i64 (c : Int)] w fun e w' => ∃ g, e = .returned (.slice (some ⟨g, 0, none⟩) c c) ∧ Ri w' g c (fun _ => B) ∧ w.heap.size ≤ g ∧ Below w.heap.size w w' := by
  have cm : Hid _ := mul_any 1 (c : Int) (by omega) (by omega) (by omega) (by omega) w
  rw [show (1 : Int) * (c : Int) / 18446744073709551616 = 0 by omega, show (1 : Int) * (c : Int) % 18446744073709551616 = (c : Int) by omega] at cm
  have hmk := makeI c (by omega)
  have hri := ri_made w c
  have bel : Below w.heap.size w (w.alloc (.cells (madeCells #[.int .i64 0] c) 3)) := (Below.refl _ _).alloc (Nat.le_refl _) _
  generalize Obj.cells (madeCells #[.int .i64 0] c) 3 = ob at *
  obtain ⟨w1, e1⟩ : ∃ w1, w1 = w.alloc ob := ⟨_, rfl⟩
  rw [← e1] at hri bel
  have E1 : Hid _ := e1
  have hlt : y < w.heap.size := World.block_lt_of_cell? w _ hy
  have y1 : w1.cell? ⟨y, 0, none⟩ = some (.int .i64 B) := (bel.cell (p := ⟨y, 0, none⟩) hlt).trans hy
  obtain ⟨w2, hcp, r2, b2⟩ := ri_copy w1 w.heap.size 0 c 1 c 1 cap ⟨y, 0, none⟩ (fun _ => 0) B hri (Nat.zero_le _) (by omega) (fun t ht => by
    have e0 : t = 0 := by omega
    subst e0
    simpa [Addr.add] using y1)
  rw [Nat.sub_zero] at hcp
  have R2 : Hid (∃ F : Nat → Int, Ri w2 w.heap.size c F ∧ ∀ t, t < 1 → F t = B) := ⟨_, r2, fun t ht => by rw [if_pos (by omega)]⟩
  have B2 : Hid (Below w.heap.size w w2) := bel.trans b2
  have hcI : (1 : Int) ≤ (c : Int) := by omega
  clear e1 hri bel r2 b2 hy y1
  go_enter Tryd.func54, Tryd.ntmps54
  go_wp2_with fail
  refine Calls.mono (Hid.out cm) ?_; rintro e w' ⟨rfl, hw'⟩; subst w'
  go_wp2_with (first | rw [← E1.out])
  clear cm hmk hcp E1
  go_loopw [8] (fun vk wr => Below w.heap.size w wr ∧ ∃ k : Nat, 1 ≤ k ∧ k ≤ c ∧ vk = .int .i64 k ∧ ∃ F : Nat → Int, Ri wr w.heap.size c F ∧ ∀ t, t < k → F t = B) (fun vk _ => c - (intOf vk).toNat)
  case atStart => exact ⟨B2.out, 1, Nat.le_refl _, hc1, rfl, R2.out⟩
  case round =>
    obtain ⟨hbel, k, hk1, hk, rfl, F, hF, hFB⟩ := hrel
    by_cases hkc : k < c
    · have hkI : (k : Int) < (c : Int) := by omega
      obtain ⟨w3, hcp, r3, b3⟩ := ri_copy wr.drew w.heap.size k c (min k (c - k)) (c - k) k c ⟨w.heap.size, 0, none⟩ F B (hF.block rfl) hk rfl (fun t ht => by
        have h1 := (hF.block (w' := wr.drew) rfl).cell (t := t) (by omega)
        rw [hFB t (by omega)] at h1
        rw [show (⟨w.heap.size, 0, none⟩ : Addr).add t = ⟨w.heap.size, t, none⟩ by unfold Addr.add; split <;> simp_all]
        exact h1)
      have hsl : c - k + k = c := by omega
      have R3 : Hid _ := r3
      have B3 : Hid (Below w.heap.size w w3) := (hbel.drew).trans b3
      clear hF r3 b3 hbel
      obtain ⟨j, hj⟩ : ∃ j, min k (c - k) = j := ⟨_, rfl⟩
      have hj1 : 1 ≤ j ∧ k + j ≤ c := by omega
      rw [hj] at hcp R3
      go_wp2_with fail
      go_region_held3 (fun _ => True) (trivial) (fail)
      have hw : IntKind.i64.wrap ((k : Int) + (j : Int)) = ((k + j : Nat) : Int) := by rw [IntKind.wrap_i64]; omega
      rw [hw]
      go_wp2_with fail
      go_roundw
      case rel => exact ⟨B3.out, k + j, by omega, hj1.2, rfl, _, R3.out, fun t ht => by
        by_cases e : k ≤ t ∧ t < k + j
        · rw [if_pos e]
        · rw [if_neg e]; exact hFB t (by omega)⟩
      case measure => simp [intOf]; omega
    · obtain rfl : k = c := by omega
      have hkI : ¬ (k : Int) < (k : Int) := by omega
      have HR : Hid (Ri wr w.heap.size k (fun _ => B)) := hF.congr hFB
      have HB : Hid _ := hbel
      clear hF hFB hbel
      go_wp2_with fail
      go_ret
      exact ⟨_, rfl, HR.out, Nat.le_refl _, HB.out⟩

end Cls

end Go.Proofs.YtlogdjhnhnfbkaaDoor

namespace Go.Proofs.YtlogdjhnhnfbkaaDoor
open Go.RowKit Go.Shelf Res
namespace Cls

/-- What is left of the counts, so many kinds taken off. -/
def rest (P : Nat → Nat → Bool) (s : ByteArray) (n : Nat) (pre : List (Nat → Bool)) (i : Nat) : Int := (bnd P n : Int) - hs P s i n pre

theorem hs_le (P : Nat → Nat → Bool) (s : ByteArray) (i m : Nat) (hm : m ≤ 64) (L : List (Nat → Bool)) : 0 ≤ hs P s i m L ∧ hs P s i m L ≤ 64 * (L.length : Int) := by
  induction L with
  | nil => rw [hs_nil]; simp
  | cons c L ih =>
    have := hk_le P s i c m
    show 0 ≤ hk P s i c m + hs P s i m L ∧ hk P s i c m + hs P s i m L ≤ 64 * ((L.length + 1 : Nat) : Int)
    omega

theorem rest_le (P : Nat → Nat → Bool) (s : ByteArray) (n : Nat) (hn : n ≤ 64) (pre : List (Nat → Bool)) (hp : pre.length ≤ 64) (i : Nat) : -5000 ≤ rest P s n pre i ∧ rest P s n pre i ≤ 5000 := by
  have h1 := hs_le P s i n hn pre
  have h2 := bnd_le P n
  unfold rest
  omega

theorem rest_snoc (P : Nat → Nat → Bool) (s : ByteArray) (n : Nat) (pre : List (Nat → Bool)) (c : Nat → Bool) (i : Nat) : rest P s n (pre ++ [c]) i = rest P s n pre i - hk P s i c n := by
  unfold rest
  rw [hs_snoc]
  omega

theorem rest_nil (P : Nat → Nat → Bool) (s : ByteArray) (n : Nat) (i : Nat) : rest P s n [] i = (bnd P n : Int) := by
  unfold rest
  rw [hs_nil]
  omega

/-- All kinds taken off, what is left is what is missed. -/
theorem rest_all (P : Nat → Nat → Bool) (s : ByteArray) (n : Nat) (i : Nat) : rest P s n (kd P n) i = ((mis P s i n : Nat) : Int) := by
  unfold rest
  rw [hs_kinds']
  omega

/-- Rows of unlike numbers lie apart. -/
theorem ri_apart {w : World} {g N b o n : Nat} {F G : Nat → Int} (h : Ri w g N F) (hf : Fam w b o n G) (hn : 1 ≤ n) : b ≠ g := fun e => by
  subst e
  have h1 := hf 0 (by omega)
  obtain ⟨cur, hg, hs, hc⟩ := h.row
  unfold World.cell? at h1
  rw [hg] at h1
  simp only [Nat.add_zero] at h1
  have h2 : cur[o]? = some (.int .u64 (G 0)) := h1
  by_cases ho : o < N
  · rw [hc o ho] at h2
    cases h2
  · rw [Array.getElem?_eq_none (by omega)] at h2
    cases h2

set_option maxRecDepth 100000 in
set_option maxHeartbeats 4000000 in
theorem counts11_early (P : Nat → Nat → Bool) (n cap : Nat) (ao : Option Addr) (K z : Int) (s : ByteArray) (w : World) (hl : Lf w ao n P) (hno : se P n K s.size z ≠ 0 ∨ s.size < n) :
    Calls Tryd.prog 37 #[.agg #[.slice ao n cap, .int .i64 K], .string s, .int .i64 z] w fun e w' => e = .returned (.tuple #[.slice none 0 0, .int .i64 0, .int .i64 (se P n K s.size z)]) ∧ Below w.heap.size w w' := by
  obtain ⟨w1, b1⟩ := lbox w (.slice ao n cap) (.int .i64 K)
  obtain ⟨w2, e2⟩ : ∃ w2, w2 = w1.alloc (.cells #[.int .i64 z] 3) := ⟨_, rfl⟩
  have x2 : Boxed w2 w1.heap.size 3 (.int .i64 z) := by rw [e2]; exact Boxed.new w1 _ _
  have b2 : Below w1.heap.size w1 w2 := by rw [e2]; exact (Below.refl _ _).alloc (Nat.le_refl _) _
  have s1 : w.heap.size < w1.heap.size := by have := b1.size; omega
  have HC : Hid (w2.cell? ⟨w.heap.size, 0, none⟩ = some (.slice ao n cap) ∧ w2.cell? ⟨w.heap.size, 1, none⟩ = some (.int .i64 K)) := two_below ⟨b1.c0, b1.c1⟩ b2 s1
  have c0 := HC.out.1
  have c1 := HC.out.2
  have HS : Hid (w.heap.size + 1 = w1.heap.size) := b1.size.symm
  have HZ : Hid (w2.cell? ⟨w1.heap.size, 0, none⟩ = some (.int .i64 z)) := x2.cell
  have E1 : Hid _ := b1.eq
  have E2 : Hid _ := e2
  have B2 : Hid (Below w.heap.size w w2) := b1.bel.trans (b2.mono b1.bel.size)
  have cc : Hid _ := right_any P n cap ao K w2 (hl.grow B2.out)
  have hn := hl.small
  have s2 : w1.heap.size < w2.heap.size := x2.lt
  clear b1 b2 e2 x2 hl
  cases hr : rgt P n K with
  | false =>
    rw [se_form hr]
    rw [hr] at cc
    clear hr hno
    go_enter Tryd.func37, Tryd.ntmps37
    go_wp2_with (first | rw [← E1.out, ← E2.out, HS.out])
    refine Calls.mono (Hid.out cc) ?_; rintro e w3 ⟨rfl, b3⟩
    have B3 : Hid (Below w.heap.size w w3) := B2.out.trans (b3.mono B2.out.size)
    clear b3 cc c0 c1 E1 E2 HS
    go_wp2_with fail
    refine bodyPost_ret (results_tmp3 rfl _ _ _) rfl ?_
    exact ⟨rfl, B3.out⟩
  | true =>
    rw [hr] at cc
    obtain ⟨h1, h64, _, _⟩ := rgt_len hr
    by_cases hm : s.size < n
    · rw [se_ok hr (.inl hm)]
      have hmI : (s.size : Int) < (n : Int) := by omega
      clear hr hno
      go_enter Tryd.func37, Tryd.ntmps37
      go_wp2_with (first | rw [← E1.out, ← E2.out, HS.out])
      refine Calls.mono (Hid.out cc) ?_; rintro e w3 ⟨rfl, b3⟩
      have B3 : Hid (Below w.heap.size w w3) := B2.out.trans (b3.mono B2.out.size)
      have d := two_below HC.out b3 (by omega)
      obtain ⟨d0, d1⟩ := d
      clear b3 cc c0 c1 E1 E2 HS
      go_wp2_with fail
      refine bodyPost_ret (results_tmp3 rfl _ _ _) rfl ?_
      exact ⟨rfl, B3.out⟩
    · have hz : szb n z = false := by
        cases hz : szb n z with
        | false => rfl
        | true => exact absurd hno (fun h => h.elim (fun h => h (se_ok hr (.inr hz))) hm)
      rw [se_size hr (by omega) hz]
      have hmI : ¬ (s.size : Int) < (n : Int) := by omega
      have cn : Hid _ := fun v => count_any n s.size z v
      rw [(ct_zero (n := n) (m := s.size) (z := z) h1 (by omega)).2 hz] at cn
      clear hr hno hz
      go_enter Tryd.func37, Tryd.ntmps37
      go_wp2_with (first | rw [← E1.out, ← E2.out, HS.out])
      refine Calls.mono (Hid.out cc) ?_; rintro e w3 ⟨rfl, b3⟩
      have B3 : Hid (Below w.heap.size w w3) := B2.out.trans (b3.mono B2.out.size)
      obtain ⟨d0, d1⟩ := two_below HC.out b3 (by omega)
      have d2 : w3.cell? ⟨w1.heap.size, 0, none⟩ = some (.int .i64 z) := (b3.cell (p := ⟨w1.heap.size, 0, none⟩) s2).trans HZ.out
      clear b3 cc c0 c1 E1 E2 HS
      go_wp2_with fail
      refine Calls.mono (cn.out _) ?_; rintro e w' ⟨rfl, hw'⟩; subst w'
      go_wp2_with fail
      refine bodyPost_ret (results_tmp3 rfl _ _ _) rfl ?_
      exact ⟨rfl, B3.out⟩

set_option maxRecDepth 100000 in
set_option maxHeartbeats 4000000 in
theorem counts11_yes (P : Nat → Nat → Bool) (n cap : Nat) (ao : Option Addr) (K z : Int) (s : ByteArray) (hs : s.size ≤ 1000000) (w : World) (hA : Tab w) (hl : Lf w ao n P) (hr : rgt P n K = true) (hm : n ≤ s.size) (hz : szb n z = true) :
    Calls Tryd.prog 37 #[.agg #[.slice ao n cap, .int .i64 K], .string s, .int .i64 z] w fun e w' => (∃ g, e = .returned (.tuple #[.slice (some ⟨g, 0, none⟩) (s.size - n + 1) (s.size - n + 1), .int .i64 (((kd P n).length : Int) * ct n s.size z), .int .i64 0]) ∧ Ri w' g (s.size - n + 1) (rest P s n (kd P n)) ∧ w.heap.size ≤ g) ∧ Below w.heap.size w w' := by
  obtain ⟨w1, b1⟩ := lbox w (.slice ao n cap) (.int .i64 K)
  obtain ⟨w2, e2⟩ : ∃ w2, w2 = w1.alloc (.cells #[.int .i64 z] 3) := ⟨_, rfl⟩
  have x2 : Boxed w2 w1.heap.size 3 (.int .i64 z) := by rw [e2]; exact Boxed.new w1 _ _
  have b2 : Below w1.heap.size w1 w2 := by rw [e2]; exact (Below.refl _ _).alloc (Nat.le_refl _) _
  have s1 : w.heap.size < w1.heap.size := by have := b1.size; omega
  have HC : Hid (w2.cell? ⟨w.heap.size, 0, none⟩ = some (.slice ao n cap) ∧ w2.cell? ⟨w.heap.size, 1, none⟩ = some (.int .i64 K)) := two_below ⟨b1.c0, b1.c1⟩ b2 s1
  have c0 := HC.out.1
  have c1 := HC.out.2
  have HS : Hid (w.heap.size + 1 = w1.heap.size) := b1.size.symm
  have HZ : Hid (w2.cell? ⟨w1.heap.size, 0, none⟩ = some (.int .i64 z)) := x2.cell
  have E1 : Hid _ := b1.eq
  have E2 : Hid _ := e2
  have B2 : Hid (Below w.heap.size w w2) := b1.bel.trans (b2.mono b1.bel.size)
  have HL2 : Hid (Lf w2 ao n P) := hl.grow B2.out
  have HA2 : Hid (Tab w2) := hA.below B2.out (tab_lt hA)
  have cc : Hid _ := right_any P n cap ao K w2 HL2.out
  have hn := hl.small
  have s2 : w1.heap.size < w2.heap.size := x2.lt
  obtain ⟨h1, h64, _, _⟩ := rgt_len hr
  rw [hr] at cc
  have cn : Hid _ := fun v => count_any n s.size z v
  have hct0 : ct n s.size z ≠ 0 := fun h => by rw [(ct_zero (n := n) (m := s.size) (z := z) h1 hm).1 h] at hz; cases hz
  obtain ⟨ct0, ct1⟩ := ct_small11 (n := n) (m := s.size) (z := z)
  have hmI : ¬ (s.size : Int) < (n : Int) := by omega
  have HSQ : Hid _ := (sq_le (m := s.size) (z := z) hr).2
  have HBM : Hid _ := fun (A B : Nat → Int) hA hB => (bc_marks (n := n) (m := s.size) (z := z) h1 (by omega) hm A B hA hB).1 hz
  obtain ⟨C, hC⟩ : ∃ C, ct n s.size z = C := ⟨_, rfl⟩
  rw [hC] at cn hct0 ct0 ct1 HSQ HBM ⊢
  have hC0 : (C == 0) = false := by simpa using hct0
  obtain ⟨N, hN⟩ : ∃ N, s.size - n + 1 = N := ⟨_, rfl⟩
  rw [hN]
  have hNI : (s.size : Int) - (n : Int) + 1 = (N : Int) := by omega
  have hN1 : 1 ≤ N ∧ N ≤ 1000001 := by omega
  have hw1 : IntKind.i64.wrap ((s.size : Int) - (n : Int)) = (s.size : Int) - (n : Int) := by rw [IntKind.wrap_i64]; omega
  have hw2 : IntKind.i64.wrap ((s.size : Int) - (n : Int) + 1) = (N : Int) := by rw [hNI, IntKind.wrap_i64]; omega
  clear b1 b2 e2 x2 hl hr hz hct0 hC
  refine (callsIn_wide (n := 9)).1 (callsIn_of_wp_marks Tryd.func37 rfl trivial ?_ rfl)
  refine wpIn_wide.2 ?_
  simp only [Tryd.ntmps37, List.size_toArray, List.length_cons, List.length_nil, Nat.reduceAdd, Nat.reduceSub, Array.replicate_succ, Array.replicate_zero, List.push_toArray, List.append_toArray, List.nil_append, List.cons_append]
  go_wp2_with (first | rw [← E1.out, ← E2.out, HS.out])
  refine Calls.mono (Hid.out cc) ?_; rintro e w3 ⟨rfl, b3⟩
  have B3 : Hid (Below w2.heap.size w2 w3) := b3
  obtain ⟨d0, d1⟩ := two_below HC.out b3 (by omega)
  have d2 : w3.cell? ⟨w1.heap.size, 0, none⟩ = some (.int .i64 z) := (b3.cell (p := ⟨w1.heap.size, 0, none⟩) s2).trans HZ.out
  have cb : Hid _ := bound_any P n cap ao K w3 (HL2.out.grow b3)
  clear b3 cc c0 c1 E1 E2 HS
  go_wp2_with fail
  refine Calls.mono (cn.out _) ?_; rintro e w' ⟨rfl, hw'⟩; subst w'
  go_wp2_with fail
  refine Calls.mono (Hid.out cb) ?_; rintro e w4 ⟨rfl, b4⟩
  have B4 : Hid (Below w2.heap.size w2 w4) := B3.out.trans (b4.mono B3.out.size)
  obtain ⟨d0, d1⟩ := two_below HC.out B4.out (by omega)
  obtain ⟨w5, e5⟩ : ∃ w5, w5 = w4.alloc (.cells #[.int .i64 ((bnd P n : Nat) : Int)] 3) := ⟨_, rfl⟩
  have x5 : Boxed w5 w4.heap.size 3 (.int .i64 ((bnd P n : Nat) : Int)) := by rw [e5]; exact Boxed.new w4 _ _
  have b5 : Below w4.heap.size w4 w5 := by rw [e5]; exact (Below.refl _ _).alloc (Nat.le_refl _) _
  have B5 : Hid (Below w2.heap.size w2 w5) := B4.out.trans (b5.mono B4.out.size)
  have E5 : Hid _ := e5
  have cq : Hid _ := fun cap => repeat_any ((bnd P n : Nat) : Int) w4.heap.size N cap hN1.1 hN1.2 w5 x5.cell
  clear b4 b5 e5 x5 cb cn
  go_wp2_with (first | rw [← E5.out])
  refine Calls.mono (cq.out _) ?_; rintro e w6 ⟨g, rfl, r6, hg6, b6⟩
  have R6 : Hid (Ri w6 g N (fun _ => ((bnd P n : Nat) : Int))) := r6
  have B6 : Hid (Below w2.heap.size w2 w6) := B5.out.trans (b6.mono B5.out.size)
  obtain ⟨wa, ea⟩ : ∃ wa, wa = w6.alloc (.cells #[.slice (some ⟨g, 0, none⟩) N N] 34) := ⟨_, rfl⟩
  obtain ⟨w7, e7⟩ : ∃ w7, w7 = wa.alloc (.cells #[.int .i64 0] 3) := ⟨_, rfl⟩
  have xa : Boxed wa w6.heap.size 34 (.slice (some ⟨g, 0, none⟩) N N) := by rw [ea]; exact Boxed.new w6 _ _
  have x7 : Boxed w7 wa.heap.size 3 (.int .i64 0) := by rw [e7]; exact Boxed.new wa _ _
  have ba : Below w6.heap.size w6 wa := by rw [ea]; exact (Below.refl _ _).alloc (Nat.le_refl _) _
  have b7 : Below wa.heap.size wa w7 := by rw [e7]; exact (Below.refl _ _).alloc (Nat.le_refl _) _
  have za : wa.heap.size = w6.heap.size + 1 := by rw [ea, World.size_alloc]
  have z7 : w7.heap.size = wa.heap.size + 1 := by rw [e7, World.size_alloc]
  have b67 : Below w6.heap.size w6 w7 := ba.trans (b7.mono (by omega))
  have B7 : Hid (Below w2.heap.size w2 w7) := B6.out.trans (b67.mono B6.out.size)
  have HLT : Hid (w5.heap.size ≤ g ∧ g < w6.heap.size ∧ wa.heap.size = w6.heap.size + 1 ∧ w7.heap.size = wa.heap.size + 1 ∧ w2.heap.size ≤ w5.heap.size ∧ w6.heap.size < wa.heap.size ∧ wa.heap.size < w7.heap.size) := ⟨hg6, r6.lt, za, z7, B5.out.size, by omega, by omega⟩
  have R7 : Hid (Ri w7 g N (fun _ => ((bnd P n : Nat) : Int))) := R6.out.grow b67
  have XB : Hid (Boxed w7 w6.heap.size 34 (.slice (some ⟨g, 0, none⟩) N N)) := (b7.block _ (by omega)).trans xa
  have XT : Hid (Boxed w7 wa.heap.size 3 (.int .i64 0)) := x7
  have EA : Hid _ := ea
  have E7 : Hid _ := e7
  obtain ⟨d0, d1⟩ := two_below HC.out B7.out (by omega)
  have ck : Hid _ := kindRows_made n cap ao P K s w7 (HL2.out.grow B7.out)
  clear cq E5 r6 b6 xa x7 ba b7 b67 ea e7
  have d0r : ((w6.alloc (.cells #[.slice (some ⟨g, 0, none⟩) N N] 34)).alloc (.cells #[.int .i64 0] 3)).cell? ⟨w.heap.size, 0, none⟩ = some (.slice ao n cap) := by rw [← EA.out, ← E7.out]; exact d0
  have d1r : ((w6.alloc (.cells #[.slice (some ⟨g, 0, none⟩) N N] 34)).alloc (.cells #[.int .i64 0] 3)).cell? ⟨w.heap.size, 1, none⟩ = some (.int .i64 K) := by rw [← EA.out, ← E7.out]; exact d1
  go_wp2_with fail
  rw [← EA.out, ← E7.out]
  refine Calls.mono (Hid.out ck) ?_; rintro e w8 ⟨rfl, c8, b8⟩
  have e7 : w7.heap.size = w6.heap.size + 1 + 1 := by have := HLT.out; omega
  have ea' : wa.heap.size = w6.heap.size + 1 := HLT.out.2.2.1
  rw [e7] at c8
  have HL8 := HLT.out
  have lt7 : w6.heap.size < w7.heap.size ∧ w6.heap.size + 1 < w7.heap.size ∧ g < w7.heap.size := by omega
  have R8 : Hid (Ri w8 g N (fun _ => ((bnd P n : Nat) : Int))) := R7.out.grow b8
  have XB8 : Hid (Boxed w8 w6.heap.size 34 (.slice (some ⟨g, 0, none⟩) N N)) := (b8.block _ lt7.1).trans XB.out
  have XT8 : Hid (Boxed w8 (w6.heap.size + 1) 3 (.int .i64 0)) := (b8.block _ lt7.2.1).trans (by have := XT.out; rw [ea'] at this; exact this)
  have B8 : Hid (Below w2.heap.size w2 w8) := B7.out.trans (b8.mono B7.out.size)
  have HG : Hid (w2.heap.size ≤ g ∧ g < w6.heap.size ∧ w6.heap.size + 1 + 1 ≤ w8.heap.size) := ⟨by omega, by omega, by have := b8.size; omega⟩
  have HAo : Hid (∀ k, (1 ≤ n ∧ ∃ o, ao = some ⟨k, o, none⟩) → k < w2.heap.size) := fun k ⟨h1, o, e⟩ => by
    obtain ⟨b, o', e', hlt, _⟩ := HL2.out.lies h1
    rw [e'] at e
    cases e
    exact hlt
  have hpr : 1 < w2.heap.size := tab_lt HA2.out
  have TA8 : Hid (Tab w8) := HA2.out.below B8.out hpr
  have Z8 : Hid (w8.cell? ⟨w1.heap.size, 0, none⟩ = some (.int .i64 z)) := (B8.out.cell (p := ⟨w1.heap.size, 0, none⟩) s2).trans HZ.out
  clear d0r d1r ck EA E7 b8 R7 XB XT e7 ea' HL8 lt7
  generalize w6.heap.size = q at *
  go_wp2_with fail
  refine (wpIn_wide (n := 9)).1 ?_
  have hseq := kindRows_seq (q + 1 + 1) (q + 1 + 1 + 1) n cap ao P K s hs (by omega) w8 c8
  have hkn := kinds_le P n
  have hq1 := HG.out.2.2
  have hq2 := HG.out.2.1
  have hq3 := HG.out.1
  refine' wp_seqE (gf := 69) rfl (enters_of Tryd.func69 (by kernel_rfl) rfl) hseq (enk_abid P n s) (fun _ _ _ ⟨_, _, e, _⟩ => by rw [e]; rfl) (fun k h => c8.lt h)
    (fun pre M W => (Ri W g N (rest P s n pre) ∧ ¬ M g) ∧ (Boxed W q 34 (.slice (some ⟨g, 0, none⟩) N N) ∧ ¬ M q) ∧ (Boxed W (q + 1) 3 (.int .i64 ((pre.length : Int) * C)) ∧ ¬ M (q + 1)) ∧ Below g w8 W)
    (fun _ _ _ _ => False) ?abid (fun c s M M' W W' h _ _ => h) ?start
    (fun vs => { tmps := #[.agg #[.slice ao n cap, .int .i64 K], .string s, .int .i64 z, .pointer (some ⟨w.heap.size, 0, none⟩), undef, .pointer (some ⟨w1.heap.size, 0, none⟩), .slice none 0 0, .int .i64 0, .int .i64 0, .int .i64 (n : Int), .int .i64 (s.size : Int), .pointer (some ⟨q, 0, none⟩), .pointer (some ⟨q + 1, 0, none⟩), vs.getD 0 undef, vs.getD 1 undef, undef, undef, undef, undef, undef, .agg #[.slice ao n cap, .int .i64 K], .bool true, .bool false, .pointer (some ⟨w.heap.size, 0, none⟩), .slice ao n cap, .int .i64 (n : Int), .string s, .int .i64 (s.size : Int), .int .i64 (n : Int), .int .i64 (s.size : Int), .bool false, .int .i64 (n : Int), .int .i64 (s.size : Int), .int .i64 z, .int .i64 C, .bool false, .agg #[.slice ao n cap, .int .i64 K], .int .i64 ((bnd P n : Nat) : Int), .slice (some ⟨w4.heap.size, 0, none⟩) 1 1, .int .i64 (s.size : Int), .int .i64 (n : Int), .int .i64 ((s.size : Int) - (n : Int)), .int .i64 (N : Int), .slice (some ⟨g, 0, none⟩) N N, .agg #[.slice ao n cap, .int .i64 K], .string s, .func (.func 69) #[] #[.pointer (some ⟨q + 1 + 1, 0, none⟩), .pointer (some ⟨q + 1 + 1 + 1, 0, none⟩)], vs.getD 0 undef, vs.getD 1 undef, undef, undef, undef, undef, undef, undef, undef, undef, undef, undef, undef, undef, undef, undef, undef, undef, undef, undef, undef, undef, undef, undef, undef, undef, undef, undef, undef, undef, undef], defers := [] }) ?assign ?body ?done ?stop
  case abid => exact (Abid.own g (fun (pre : List (Nat → Bool)) W => Ri W g N (rest P s n pre)) (fun _ _ _ h e => h.block e) (fun _ _ h => h.lt)).and ((boxed_abid _ _ _ _).and ((Abid.own (q + 1) (fun (pre : List (Nat → Bool)) W => Boxed W (q + 1) 3 (.int .i64 ((pre.length : Int) * C))) (fun _ _ _ h e => e.trans h) (fun _ _ h => h.lt)).and (Abid.below (by omega) (by omega))))
  case start =>
    have na : ∀ k, g ≤ k → k < q + 1 + 1 → ¬ Blk2 (q + 1 + 1) (q + 1 + 1 + 1) ao n k := fun k h1 h2 h => by
      rcases h with h | h | h
      · omega
      · omega
      · have := HAo.out k h; omega
    exact ⟨⟨R8.out.congr (fun t _ => (rest_nil P s n t).symm), na g (Nat.le_refl _) (by omega)⟩, ⟨XB8.out, na q (by omega) (by omega)⟩, ⟨by have := XT8.out; simpa using this, na (q + 1) (by omega) (by omega)⟩, Below.refl _ _⟩
  case assign =>
    rintro l' x' vs W' K' ⟨p, h, rfl, _⟩ hK
    clear hseq
    gi_wp2
    exact hK
  case stop => exact fun _ _ _ _ _ _ h _ => h.elim
  case done =>
    rintro D V hD ⟨⟨hr, _⟩, ⟨hxb, _⟩, ⟨hxt, _⟩, hb⟩ hK
    have HK : Hid (V.heap[D]? = some (.deferred (some []))) := hK
    have HR : Hid (Ri V g N (rest P s n (kd P n))) := hr
    have HB : Hid (Below g w8 V) := hb
    have x0 := hxb.cell
    have x1 := hxt.cell
    clear hseq hr hb hK hxb hxt
    go_wp2_with fail
    go_quiet (fail)
    go_wp2_with fail
    have hKd : (V.drewN nq).heap[D]? = some (.deferred (some [])) := HK.out
    refine ⟨by simp, .inl ⟨_, _, rfl, run_takeDeferred hKd, ?_⟩⟩
    refine ⟨_, results_tmp3 rfl _ _ _, ⟨g, rfl, ?_, by have := B2.out.size; omega⟩, ?_⟩
    · exact (HR.out.block (w' := V.drewN nq) rfl).block (World.putObj_heap_other (by omega))
    · have h1 : Below w.heap.size w w8 := B2.out.trans (B8.out.mono B2.out.size)
      have h2 : Below w.heap.size w8 (V.drewN nq) := below_drewN (HB.out.mono (by have := B2.out.size; omega)) nq
      exact (h1.trans h2).trans (belowK_b (w := w8) (by have := B2.out.size; omega) _ _ _ _ hD hKd rfl rfl)
  case body =>
    rintro lp pre M c vs V ⟨p, h, rfl, fp, fh⟩ ⟨⟨hr, hMg⟩, ⟨hxb, hMq⟩, ⟨hxt, hMt⟩, hb⟩ hMV hp
    have hpl : pre.length + 1 ≤ (kd P n).length := by have := hp.length_le; simpa using this
    have TV : Tab V := TA8.out.below hb (by omega)
    have zc : V.cell? ⟨w1.heap.size, 0, none⟩ = some (.int .i64 z) := (hb.cell (p := ⟨w1.heap.size, 0, none⟩) (by show w1.heap.size < g; omega)).trans Z8.out
    have hb1 : ∀ b : Bool, (b.toNat : Int) ≤ 18446744073709551615 := fun b => by have := bool_le b; omega
    have cq : Hid _ := bcor_any (some ⟨p, 0, none⟩) (some ⟨h, 0, none⟩) n s.size n s.size z (by omega) hs (Nat.le_refl _) (kp P c) (km s c) (fun t => (bool_le _).1) (fun t => (bool_le _).1) (fun t => hb1 _) (fun t => hb1 _) V TV (fun _ => ⟨p, 0, rfl, fp⟩) (fun _ => ⟨h, 0, rfl, fh⟩)
    obtain ⟨e0, e1, e2⟩ := HBM.out (kp P c) (km s c) (fun t => (bool_le _).2) (fun t => (bool_le _).2)
    rw [e0, e1, e2, hN] at cq
    have HV : Hid (Ri V g N (rest P s n pre)) := hr
    have HXB : Hid (Boxed V q 34 (.slice (some ⟨g, 0, none⟩) N N)) := hxb
    have HXT : Hid (Boxed V (q + 1) 3 (.int .i64 ((pre.length : Int) * C))) := hxt
    have HBV : Hid (Below g w8 V) := hb
    have HM3 : Hid (¬ M g ∧ ¬ M q ∧ ¬ M (q + 1)) := ⟨hMg, hMq, hMt⟩
    have HMV : Hid (∀ k, M k → k < V.heap.size) := hMV
    have hrl := fun i => rest_le P s n h64 pre (by omega) i
    have hkl := fun i => hk_le P s i c n
    have HSN : Hid _ := rest_snoc P s n pre c
    have hq4 : q + 1 + 1 ≤ V.heap.size := Nat.le_trans hq1 hb.size
    obtain ⟨t0, t1⟩ := HSQ.out pre.length (by omega)
    obtain ⟨t2, t3⟩ := HSQ.out (pre.length + 1) hpl
    have ht : ((pre.length + 1 : Nat) : Int) * C = (pre.length : Int) * C + C := by rw [Int.natCast_add, Int.add_mul]; simp
    rw [ht] at t2 t3
    have HT : Hid (((pre ++ [c]).length : Int) * C = (pre.length : Int) * C + C) := by show _ = _; rw [← ht]; simp
    clear hseq hr hxb hxt hb hMg hMq hMt hMV hp fp fh TV e0 e1 e2 ht
    generalize (pre.length : Int) * C = T at *
    gi_wp2_with fail
    refine ⟨trivial, CallsIn.inRound lp (callsIn_wide.2 (Calls.mono (Hid.out cq) ?_))⟩
    rintro e v1 ⟨so, sc, rfl, ls, b1⟩
    obtain ⟨b0, o0, rfl, fs⟩ := ls (by omega)
    have R1 : Hid (Ri v1 g N (rest P s n pre)) := HV.out.grow b1
    have hne := ri_apart R1.out fs hN1.1
    have FS : Hid (Fam v1 b0 o0 N (fun i => hk P s i c n)) := fs
    have BV1 : Hid (Below V.heap.size V v1) := b1
    have XB1 : Hid (Boxed v1 q 34 (.slice (some ⟨g, 0, none⟩) N N)) := (b1.block _ (by omega)).trans HXB.out
    have XT1 : Hid (Boxed v1 (q + 1) 3 (.int .i64 T)) := (b1.block _ (by omega)).trans HXT.out
    have hq5 : q + 1 + 1 ≤ v1.heap.size := Nat.le_trans hq4 b1.size
    have hb0 : b0 < v1.heap.size := fs.lt (by omega)
    clear cq ls fs b1 zc HV HXB HXT
    gi_wp2_with fail
    gi_loopw [59] (fun vk wr => ∃ k : Nat, k ≤ N ∧ vk = .int .i64 (k : Int) ∧ Ri wr g N (mix k (rest P s n (pre ++ [c])) (rest P s n pre)) ∧ Fr (fun j => j ≠ g) v1 wr) (fun vk _ => N - (intOf vk).toNat)
    case atStart => exact ⟨0, Nat.zero_le _, rfl, by rw [mix_zero]; exact R1.out, Fr.refl _ _⟩
    case round =>
      obtain ⟨k, hkk, rfl, hR, hF⟩ := hrel
      have HRr : Hid _ := hR
      have HFr : Hid (Fr (fun j => j ≠ g) v1 wr) := hF
      by_cases hkN : k < N
      · have hkI : (k : Int) < (N : Int) := by omega
        have xb0 : Boxed wr q 34 (.slice (some ⟨g, 0, none⟩) N N) := (hF.block q (by omega) (by omega)).trans XB1.out
        have xb := xb0.cell
        have fc : wr.cell? ⟨b0, o0 + k, none⟩ = some (.int .u64 (hk P s k c n)) := (hF.cell (p := ⟨b0, o0 + k, none⟩) hne hb0).trans ((show Fam v1 b0 o0 N (fun i => hk P s i c n) from FS.out) k hkN)
        have rc := hR.cell hkN
        rw [mix_hi (Nat.le_refl k)] at rc
        have rf := hR.frozen k
        obtain ⟨g0, g1⟩ := hrl k
        obtain ⟨g2, g3⟩ := hkl k
        have HP : Hid (Ri (wr.setCell ⟨g, k, none⟩ (.int .i64 (rest P s n pre k - hk P s k c n))) g N (mix (k + 1) (rest P s n (pre ++ [c])) (rest P s n pre))) := (hR.put k _).congr (fun t ht => by
          by_cases e : t = k
          · subst e; rw [upd_at, mix_lo (by omega), HSN.out]
          · rw [upd_off e]
            by_cases e2 : t < k
            · rw [mix_lo e2, mix_lo (by omega)]
            · rw [mix_hi (by omega), mix_hi (by omega)])
        have HF2 : Hid (Fr (fun j => j ≠ g) v1 (wr.setCell ⟨g, k, none⟩ (.int .i64 (rest P s n pre k - hk P s k c n)))) := hF.setCell (by simp) _
        clear hR hF hrl hkl xb0
        generalize rest P s n pre k = x at *
        generalize hk P s k c n = y at *
        gi_wp2_with fail
        go_roundw
        case rel => exact ⟨k + 1, by omega, by go_num, HP.out, HF2.out⟩
        case measure => simp [intOf]; omega
      · obtain rfl : k = N := by omega
        have xt : Boxed wr (q + 1) 3 (.int .i64 T) := (hF.block (q + 1) (by omega) (by omega)).trans XT1.out
        have xtc := xt.cell
        have xtf := xt.frozen
        have HRn : Hid (Ri wr g k (rest P s n (pre ++ [c]))) := hR.congr (fun t ht => mix_lo ht)
        have HXTn : Hid (Boxed wr (q + 1) 3 (.int .i64 T)) := xt
        have HXBn : Hid (Boxed wr q 34 (.slice (some ⟨g, 0, none⟩) k k)) := (hF.block q (by omega) (by omega)).trans XB1.out
        clear hR hF xt hrl hkl
        gi_wp2_with fail
        have hvg : g ≤ v1.heap.size := by omega
        have bW : Below g v1 (wr.setCell ⟨q + 1, 0, none⟩ (.int .i64 (T + C))) := (HFr.out.below hvg (fun j hj => by show j ≠ g; omega)).setCell (by show g ≤ q + 1; omega) _
        have eT : ((pre ++ [c]).length : Int) * C = T + C := HT.out
        refine ⟨?_, ⟨HRn.out.block (Below.heap_setCell _ _ _ g (by show g ≠ q + 1; omega)), HM3.out.1⟩, ⟨HXBn.out.other (by omega) _, HM3.out.2.1⟩, ⟨by rw [eT]; exact HXTn.out.set _, HM3.out.2.2⟩, (HBV.out.trans (BV1.out.mono (by omega))).trans bW⟩
        exact ((Fr.of_below BV1.out (fun _ hk _ => hk)).trans (HFr.out.mono (fun j _ hM e => HM3.out.1 (e ▸ hM)))).setCell HM3.out.2.2 _

/-- What it tells, whatever the input. -/
theorem counts11_new (P : Nat → Nat → Bool) (n cap : Nat) (ao : Option Addr) (K z : Int) (s : ByteArray) (hs : s.size ≤ 1000000) (w : World) (hA : Tab w) (hl : Lf w ao n P) :
    Calls Tryd.prog 37 #[.agg #[.slice ao n cap, .int .i64 K], .string s, .int .i64 z] w fun e w' => (∃ bo d, e = .returned (.tuple #[.slice bo (sc P n K s z).length d, .int .i64 (sq P n K s.size z), .int .i64 (se P n K s.size z)]) ∧ Is w' bo (sc P n K s z) ∧ (1 ≤ (sc P n K s z).length → ∃ g, bo = some ⟨g, 0, none⟩ ∧ w.heap.size ≤ g)) ∧ Below w.heap.size w w' := by
  by_cases hno : se P n K s.size z ≠ 0 ∨ s.size < n
  · refine Calls.mono (counts11_early P n cap ao K z s w hl hno) ?_
    rintro e w' ⟨rfl, hb⟩
    by_cases he : se P n K s.size z = 0
    · have hm : s.size < n := hno.resolve_left (fun h => h he)
      obtain ⟨hr, _⟩ := se_rgt he
      have h1 : sc P n K s z = [] := by
        rw [sc_ok he]
        refine List.length_eq_zero_iff.1 ?_
        rw [cts_len, stn_no (fun h => by omega)]
      have h2 : sq P n K s.size z = 0 := by
        rw [sq_ok he, ct_no (fun h => by omega), Int.mul_zero]
      rw [h1, h2]
      exact ⟨⟨none, 0, rfl, fun h => absurd h (by simp), fun h => absurd h (by simp)⟩, hb⟩
    · rw [sc_no he, sq_no he]
      exact ⟨⟨none, 0, rfl, fun h => absurd h (by simp), fun h => absurd h (by simp)⟩, hb⟩
  · have he : se P n K s.size z = 0 := by
      by_cases h : se P n K s.size z = 0
      · exact h
      · exact absurd (.inl h) hno
    have hm : n ≤ s.size := by omega
    obtain ⟨hr, hz⟩ := se_rgt he
    have hz' : szb n z = true := hz.resolve_left (by omega)
    refine Calls.mono (counts11_yes P n cap ao K z s hs w hA hl hr hm hz') ?_
    rintro e w' ⟨⟨g, rfl, hR, hg⟩, hb⟩
    have hL : (sc P n K s z).length = s.size - n + 1 := by rw [sc_ok he, cts_len, stn_yes hr hm]
    rw [sq_ok he, he]
    refine ⟨⟨some ⟨g, 0, none⟩, s.size - n + 1, by rw [hL], ?_, fun _ => ⟨g, rfl, hg⟩⟩, hb⟩
    rw [← hL] at hR
    refine hR.is (fun t ht => ?_)
    have h1 : (sc P n K s z)[t] = mis P s t n := by
      have h2 : (cts P n K s)[t]? = some (mis P s t n) := by
        have h3 : t < (cts P n K s).length := by rw [← sc_ok he]; exact ht
        rw [List.getElem?_eq_getElem h3, cts_at]
      rw [← sc_ok he (z := z), List.getElem?_eq_getElem ht] at h2
      exact Option.some.inj h2
    rw [h1, rest_all]

/-- What it tells, whatever the input. -/
theorem counts11_any (P : Nat → Nat → Bool) (n cap : Nat) (ao : Option Addr) (K z : Int) (s : ByteArray) (hs : s.size ≤ 1000000) (w : World) (hA : Tab w) (hl : Lf w ao n P) :
    Calls Tryd.prog 37 #[.agg #[.slice ao n cap, .int .i64 K], .string s, .int .i64 z] w (Told5 w (sc P n K s z) (sq P n K s.size z) (se P n K s.size z)) :=
  (counts11_new P n cap ao K z s hs w hA hl).mono (by rintro e w' ⟨⟨bo, d, rfl, hi, _⟩, hb⟩; exact ⟨⟨bo, d, rfl, hi⟩, hb⟩)

end Cls

end Go.Proofs.YtlogdjhnhnfbkaaDoor

namespace Go.Proofs.YtlogdjhnhnfbkaaDoor
open Go.RowKit Res
namespace Cls

/-- A row is told. -/
def ToldU (w : World) (n : Nat) (F : Nat → Int) (e : Ending) (w' : World) : Prop := (∃ ao c, e = .returned (.slice ao n c) ∧ Lies w' ao n F) ∧ Below w.heap.size w w'

end Cls

end Go.Proofs.YtlogdjhnhnfbkaaDoor

namespace Go.Proofs.YtlogdjhnhnfbkaaDoor
open Go.RowKit Res
namespace Cls

end Cls

end Go.Proofs.YtlogdjhnhnfbkaaDoor
