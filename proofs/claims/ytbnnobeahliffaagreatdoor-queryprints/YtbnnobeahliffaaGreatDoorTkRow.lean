/- Rows of tokens in memory: slices of them, rows that are appended to. Nothing of the program but its types' numbers. -/
import Derived.Test.YtbnnobeahliffaaGreatDoorTkLex
import Derived.Test.YtbnnobeahliffaaGreatDoorLfA
import Derived.Maps.AppendAt
set_option linter.unusedVariables false
namespace Go.Proofs.YtbnnobeahliffaaGreatDoor
open Go.RowKit
namespace Cls

/-- A token, as numbers and sets. -/
structure Ti where
  kind : Int
  at' : Int
  n : Int
  p : List (Nat → Bool)

def Tk.i (t : Tk) : Ti := ⟨(t.kind : Int), (t.at' : Int), (t.n : Int), t.p⟩

/-- A token in memory: where its classes lie. -/
structure Tv where
  i : Ti
  ao : Option Addr
  cap : Nat

def Tv.four (x : Tv) : List Value := [.int .i64 x.i.kind, .int .i64 x.i.at', .int .i64 x.i.n, .slice x.ao x.i.p.length x.cap]

def Tv.val (x : Tv) : Value := .agg #[.int .i64 x.i.kind, .int .i64 x.i.at', .int .i64 x.i.n, .slice x.ao x.i.p.length x.cap]

def Tv.ok (w : World) (x : Tv) : Prop := Lf w x.ao x.i.p.length (at' x.i.p)

theorem Tv.ok.grow {w w' : World} {x : Tv} (h : x.ok w) (b : Below w.heap.size w w') : x.ok w' := Lf.grow h b

def tkc (L : List Tv) : List Value := L.flatMap Tv.four

theorem tkc_len (L : List Tv) : (tkc L).length = L.length * 4 := by
  induction L with
  | nil => rfl
  | cons p L ih => simp [tkc, Tv.four] at ih ⊢; omega

theorem tkc_append (L M : List Tv) : tkc (L ++ M) = tkc L ++ tkc M := by simp [tkc]

theorem tkc_at (L : List Tv) (t k : Nat) (h : t < L.length) (hk : k < 4) : (tkc L)[t * 4 + k]? = (L[t]).four[k]? := by
  have e : L = L.take t ++ ([L[t]] ++ L.drop (t + 1)) := by
    rw [← List.append_assoc, ← List.take_succ_eq_append_getElem h, List.take_append_drop]
  have hl : (tkc (L.take t)).length = t * 4 := by rw [tkc_len, List.length_take]; omega
  have e2 : tkc L = tkc (L.take t) ++ (tkc [L[t]] ++ tkc (L.drop (t + 1))) := by
    conv => lhs; rw [e]
    rw [tkc_append, tkc_append]
  rw [e2, List.getElem?_append_right (by omega), hl, show t * 4 + k - t * 4 = k by omega, List.getElem?_append_left (by rw [tkc_len]; simp; omega)]
  simp [tkc]

/-- A token at a place of a block. -/
structure T4 (w : World) (b o : Nat) (x : Tv) : Prop where
  c0 : w.cell? ⟨b, o, none⟩ = some (.int .i64 x.i.kind)
  c1 : w.cell? ⟨b, o + 1, none⟩ = some (.int .i64 x.i.at')
  c2 : w.cell? ⟨b, o + 2, none⟩ = some (.int .i64 x.i.n)
  c3 : w.cell? ⟨b, o + 3, none⟩ = some (.slice x.ao x.i.p.length x.cap)

theorem T4.grow {w w' : World} {b o : Nat} {x : Tv} (h : T4 w b o x) (hb : Below w.heap.size w w') : T4 w' b o x := by
  have hi : b < w.heap.size := World.block_lt_of_cell? w _ h.c0
  have c := fun (t : Nat) => hb.cell (p := ⟨b, t, none⟩) hi
  exact ⟨(c _).trans h.c0, (c _).trans h.c1, (c _).trans h.c2, (c _).trans h.c3⟩

/-- A slice of tokens. -/
structure TR (w : World) (so : Option Addr) (L : List Tv) : Prop where
  small : L.length ≤ 4398046511104
  lies : 1 ≤ L.length → ∃ b o, so = some ⟨b, o, none⟩ ∧ b < w.heap.size ∧ ∀ t, (h : t < L.length) → T4 w b (o + t * 4) L[t]
  ok : ∀ x ∈ L, x.ok w

theorem TR.grow {w w' : World} {so : Option Addr} {L : List Tv} (h : TR w so L) (hb : Below w.heap.size w w') : TR w' so L :=
  ⟨h.small, fun hn => by
    obtain ⟨b, o, e, hlt, hc⟩ := h.lies hn
    exact ⟨b, o, e, Nat.lt_of_lt_of_le hlt hb.size, fun t ht => (hc t ht).grow hb⟩, fun x hx => (h.ok x hx).grow hb⟩

/-- A row of tokens of one's own; what they lead to lies apart from it. -/
structure OT (w : World) (B : Nat) (T : TypeId) (v : Value) (L : List Tv) : Prop where
  own : w.ownsRow B T 4 v L.length (tkc L)
  ok : ∀ x ∈ L, x.ok w
  apart : ∀ x ∈ L, 1 ≤ x.i.p.length → ∀ b o, x.ao = some ⟨b, o, none⟩ → some b ≠ v.ownBlock

theorem ot_nil (w : World) (B : Nat) (T : TypeId) : OT w B T (.slice none 0 0) [] := ⟨World.ownsRow_nil _ _ _ _, fun _ h => by simp at h, fun _ h => by simp at h⟩

theorem OT.grow {w w' : World} {B : Nat} {T : TypeId} {v : Value} {L : List Tv} (h : OT w B T v L) (hb : Below w.heap.size w w') : OT w' B T v L :=
  ⟨owns_below h.own hb (Nat.le_refl _), fun x hx => (h.ok x hx).grow hb, h.apart⟩

theorem OT.tr {w : World} {B : Nat} {T : TypeId} {v : Value} {L : List Tv} (h : OT w B T v L) (hs : L.length ≤ 4398046511104) : ∃ so c, v = .slice so L.length c ∧ TR w so L := by
  by_cases hn : 1 ≤ L.length
  · obtain ⟨g, cap, hv, _, _, hlt, hc, _⟩ := owns_cells h.own hn
    refine ⟨_, cap, hv, hs, fun _ => ⟨g, 0, rfl, hlt, fun t ht => ?_⟩, h.ok⟩
    have e : ∀ k, k < 4 → w.cell? ⟨g, 0 + t * 4 + k, none⟩ = (L[t]).four[k]? := fun k hk => by
      rw [hc _ (by omega), Nat.zero_add, tkc_at L t k ht hk]
    exact ⟨e 0 (by omega), e 1 (by omega), e 2 (by omega), e 3 (by omega)⟩
  · obtain ⟨_, ⟨e, e2⟩ | ⟨g', cap, cur, hv, _⟩⟩ := h.own
    · exact ⟨none, 0, by rw [e, e2], hs, fun h => absurd h hn, h.ok⟩
    · exact ⟨_, _, hv, hs, fun h => absurd h hn, h.ok⟩

theorem OT.lies {w : World} {B : Nat} {T : TypeId} {v : Value} {L : List Tv} (h : OT w B T v L) : ∀ g, v.ownBlock = some g → B ≤ g ∧ g < w.heap.size := by
  intro g hg
  obtain ⟨_, ⟨e, _⟩ | ⟨g', cap, cur, hv, hg', hbk, _⟩⟩ := h.own
  · subst e; simp [Value.ownBlock] at hg
  · subst hv
    simp [Value.ownBlock] at hg
    subst hg
    refine ⟨hg', ?_⟩
    rcases Nat.lt_or_ge g' w.heap.size with h0 | h0
    · exact h0
    · rw [Array.getElem?_eq_none h0] at hbk; cases hbk

/-- What lies apart from a row that grows stays. -/
theorem lf_grown {w w' : World} {row : Option Nat} {ao : Option Addr} {n : Nat} {P : Nat → Nat → Bool} (h : Lf w ao n P) (hg : w.grownBy w' row) (ha : 1 ≤ n → ∀ b o, ao = some ⟨b, o, none⟩ → some b ≠ row) : Lf w' ao n P :=
  ⟨h.small, fun hn => by
    obtain ⟨b, o, e, hlt, hc⟩ := h.lies hn
    refine ⟨b, o, e, Nat.lt_of_lt_of_le hlt hg.size, fun t ht k hk => ?_⟩
    rw [World.cell?_of_block (w := w) (hg.block b hlt (ha hn b o e))]
    exact hc t ht k hk⟩

/-- A token is appended. -/
theorem OT.step {w w' : World} {B : Nat} {T : TypeId} {v v' : Value} {L : List Tv} {x : Tv} {ob : Obj} (h : OT w B T v L) (hx : x.ok w) (hxa : 1 ≤ x.i.p.length → ∀ b o, x.ao = some ⟨b, o, none⟩ → some b ≠ v.ownBlock)
    (ho : w'.ownsRow B T 4 v' (L.length + 1) (tkc L ++ x.four)) (hg : (w.alloc ob).grownBy w' v.ownBlock) (hl : v'.ownBlock = v.ownBlock ∨ v'.ownBlock = some (w.alloc ob).heap.size) : OT w' B T v' (L ++ [x]) := by
  have bl : Below w.heap.size w (w.alloc ob) := (Below.refl _ _).alloc (Nat.le_refl _) _
  have hall : ∀ y ∈ L ++ [x], y.ok w ∧ (1 ≤ y.i.p.length → ∀ b o, y.ao = some ⟨b, o, none⟩ → some b ≠ v.ownBlock) := fun y hy => by
    rcases List.mem_append.1 hy with hy | hy
    · exact ⟨h.ok y hy, h.apart y hy⟩
    · rw [List.mem_singleton] at hy; subst hy; exact ⟨hx, hxa⟩
  refine ⟨?_, fun y hy => lf_grown (Lf.grow (hall y hy).1 bl) hg (hall y hy).2, fun y hy hn b o e => ?_⟩
  · rw [List.length_append, List.length_singleton, tkc_append, show tkc [x] = x.four by simp [tkc]]
    exact ho
  · rcases hl with hl | hl
    · rw [hl]; exact (hall y hy).2 hn b o e
    · rw [hl]
      obtain ⟨b', o', e', hlt, _⟩ := (hall y hy).1.lies hn
      rw [e] at e'
      injection e' with e'
      injection e' with e' _ _
      subst e'
      have hs : (w.alloc ob).heap.size = w.heap.size + 1 := by show (w.heap.push _).size = _; simp
      intro hh
      injection hh with hh
      omega

/-- A token that is new lies apart from a row that was there before. -/
theorem apart_new {w w' : World} {B : Nat} {T : TypeId} {v : Value} {L : List Tv} (h : OT w B T v L) {x : Tv} (hn : ∀ b o, x.ao = some ⟨b, o, none⟩ → w.heap.size ≤ b) : 1 ≤ x.i.p.length → ∀ b o, x.ao = some ⟨b, o, none⟩ → some b ≠ v.ownBlock := fun _ b o e hh => by
  have h1 := hn b o e
  have h2 := h.lies b hh.symm
  omega

theorem ot_mono {w : World} {B B' : Nat} {T : TypeId} {v : Value} {L : List Tv} (h : OT w B T v L) (hB : B' ≤ B) : OT w B' T v L := by
  refine ⟨?_, h.ok, h.apart⟩
  obtain ⟨hl, he | ⟨g', cap', cur, hv, hg', hbk, hc, hm, hs, ht⟩⟩ := h.own
  · exact ⟨hl, .inl he⟩
  · exact ⟨hl, .inr ⟨g', cap', cur, hv, Nat.le_trans hB hg', hbk, hc, hm, hs, ht⟩⟩

/-- A new row of one token. -/
theorem new4t (w : World) (x : Tv) (T : TypeId) (j : Nat) (u : Value) (h : x.four[j]? = some u) : (w.alloc (.cells #[.int .i64 x.i.kind, .int .i64 x.i.at', .int .i64 x.i.n, .slice x.ao x.i.p.length x.cap] T)).cell? ((⟨w.heap.size, 0, none⟩ : Addr).add j) = some u := by
  have hb : (w.alloc (.cells #[.int .i64 x.i.kind, .int .i64 x.i.at', .int .i64 x.i.n, .slice x.ao x.i.p.length x.cap] T)).heap[w.heap.size]? = some (.cells #[.int .i64 x.i.kind, .int .i64 x.i.at', .int .i64 x.i.n, .slice x.ao x.i.p.length x.cap] T) := by show (w.heap.push _)[w.heap.size]? = _; simp
  rw [add_none]
  unfold World.cell?
  rw [hb, Nat.zero_add]
  unfold Tv.four at h
  match j, h with
  | 0, h => exact h
  | 1, h => exact h
  | 2, h => exact h
  | 3, h => exact h

theorem plain4t (x : Tv) : ∀ u ∈ x.four, u.oneCell' = true := by
  intro u hu
  simp [Tv.four] at hu
  rcases hu with rfl | rfl | rfl | rfl <;> rfl

/-- A slice of classes that was told as one's own: its block. -/
theorem ownC_new {w : World} {B : Nat} {v : Value} {L : List (Nat → Bool)} (h : OwnC w B v L) {ao : Option Addr} {n cap : Nat} (hv : v = .slice ao n cap) : ∀ b o, ao = some ⟨b, o, none⟩ → B ≤ b := by
  intro b o e
  obtain ⟨_, ⟨e2, _⟩ | ⟨g', cap', cur, hv2, hg', _⟩⟩ := h
  · rw [hv] at e2; injection e2 with e2; rw [e2] at e; cases e
  · rw [hv] at hv2
    injection hv2 with e2
    rw [e] at e2
    injection e2 with e2
    injection e2 with e2 _ _
    omega

end Cls
end Go.Proofs.YtbnnobeahliffaaGreatDoor
