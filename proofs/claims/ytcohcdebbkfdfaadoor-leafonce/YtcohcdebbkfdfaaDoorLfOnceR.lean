/- Rows on the way of the law LeafOnce. Nothing of the program but its types' numbers. -/
import Derived.Test.YtcohcdebbkfdfaaDoorLfLaw
import Derived.Test.YtcohcdebbkfdfaaDoorLfOnceM
namespace Go.Proofs.YtcohcdebbkfdfaaDoor
open Go.RowKit
namespace Cls

/-- A row of n values at the head of block gt that is new since w0. -/
structure On (w0 wr : World) (gt n : Nat) (V : Nat → Value) : Prop where
  bel : Below w0.heap.size w0 wr
  row : Fv wr gt n V
  wrt : Wrt wr gt 0 n
  lo : w0.heap.size ≤ gt
  lt : gt < wr.heap.size

theorem On.grow {w0 wr w' : World} {gt n : Nat} {V : Nat → Value} (h : On w0 wr gt n V) (b : Below wr.heap.size wr w') : On w0 w' gt n V :=
  ⟨h.bel.trans (b.mono h.bel.size), h.row.below b h.lt, h.wrt.below b h.lt, h.lo, Nat.lt_of_lt_of_le h.lt b.size⟩

theorem On.congr {w0 wr : World} {gt n : Nat} {V U : Nat → Value} (h : On w0 wr gt n V) (e : ∀ t, t < n → V t = U t) : On w0 wr gt n U := ⟨h.bel, h.row.congr e, h.wrt, h.lo, h.lt⟩

theorem set_wrote (wr : World) (gt i : Nat) (x : Value) : Wrote (fun b' _ => b' = gt) wr (wr.setCell ⟨gt, i, none⟩ x) := Wrote.setCell (S := fun b' _ => b' = gt) (Wrote.refl _ _) rfl _

theorem On.set {w0 wr : World} {gt n i : Nat} {V : Nat → Value} (h : On w0 wr gt n V) (hi : i < n) (x : Value) : On w0 (wr.setCell ⟨gt, i, none⟩ x) gt n (updV V i x) := by
  have hw := set_wrote wr gt i x
  have hl := h.lo
  exact ⟨h.bel.trans (hw.below (fun b' o e => by omega)), h.row.set hi x, hw.wrt h.wrt, h.lo, by rw [hw.size]; exact h.lt⟩

/-- A row of classes that lies apart from gt. -/
def Kr (wr : World) (ko : Option Addr) (N : Nat) (A : Nat → Nat → Bool) (gt : Nat) : Prop := 1 ≤ N → ∃ gk, ko = some ⟨gk, 0, none⟩ ∧ gk < wr.heap.size ∧ gk ≠ gt ∧ Cl wr gk 0 N A

theorem Kr.grow {wr w' : World} {ko : Option Addr} {N gt : Nat} {A : Nat → Nat → Bool} (h : Kr wr ko N A gt) (b : Below wr.heap.size wr w') : Kr w' ko N A gt := fun hN => by
  obtain ⟨gk, e, hl, hn, hc⟩ := h hN
  exact ⟨gk, e, Nat.lt_of_lt_of_le hl b.size, hn, hc.below b hl⟩

theorem Kr.set {wr : World} {ko : Option Addr} {N gt i : Nat} {A : Nat → Nat → Bool} (h : Kr wr ko N A gt) (x : Value) : Kr (wr.setCell ⟨gt, i, none⟩ x) ko N A gt := fun hN => by
  obtain ⟨gk, e, hl, hn, hc⟩ := h hN
  have hw := set_wrote wr gt i x
  exact ⟨gk, e, by rw [hw.size]; exact hl, hn, fun t ht k hk => (hw.cell _ _ hn).trans (hc t ht k hk)⟩

theorem Kr.of {w wr : World} {ko : Option Addr} {N gt : Nat} {A : Nat → Nat → Bool} (hl : Lf wr ko N A) (hz : 1 ≤ N → ∃ g, ko = some ⟨g, 0, none⟩ ∧ w.heap.size ≤ g) (hg : gt < w.heap.size) : Kr wr ko N A gt := fun hN => by
  obtain ⟨b, o, e, hlt, hc⟩ := hl.lies hN
  obtain ⟨g, e2, hle⟩ := hz hN
  rw [e2] at e
  simp only [Option.some.injEq, Addr.mk.injEq] at e
  obtain ⟨rfl, rfl, _⟩ := e
  exact ⟨g, e2, hlt, by omega, hc⟩

/-- A row of places that lies apart from gt. -/
def Wr (wr : World) (uo : Option Addr) (M : List Nat) (gt : Nat) : Prop := 1 ≤ M.length → ∃ b, uo = some ⟨b, 0, none⟩ ∧ b < wr.heap.size ∧ b ≠ gt ∧ ∀ t, (h : t < M.length) → wr.cell? ⟨b, t, none⟩ = some (.int .i64 ((M[t] : Nat) : Int))

theorem Wr.set {wr : World} {uo : Option Addr} {M : List Nat} {gt i : Nat} (h : Wr wr uo M gt) (x : Value) : Wr (wr.setCell ⟨gt, i, none⟩ x) uo M gt := fun hN => by
  obtain ⟨b, e, hl, hn, hc⟩ := h hN
  have hw := set_wrote wr gt i x
  exact ⟨b, e, by rw [hw.size]; exact hl, hn, fun t ht => (hw.cell _ _ hn).trans (hc t ht)⟩

theorem Wr.of {w wr : World} {uo : Option Addr} {M : List Nat} {gt : Nat} (hl : Is wr uo M) (hz : 1 ≤ M.length → ∃ g, uo = some ⟨g, 0, none⟩ ∧ w.heap.size ≤ g) (hg : gt < w.heap.size) : Wr wr uo M gt := fun hN => by
  obtain ⟨b, e, hlt, hc⟩ := hl hN
  obtain ⟨g, e2, hle⟩ := hz hN
  rw [e2] at e
  simp only [Option.some.injEq, Addr.mk.injEq] at e
  obtain ⟨rfl, _, _⟩ := e
  exact ⟨g, e2, hlt, by omega, hc⟩

theorem make1 (n : Nat) (hn : n ≤ 4398046511104) (w : World) : (Instr.makeSlice 39 (.int .i64 (n : Int)) (.int .i64 (n : Int))).run Tryd.prog w = .ok (.slice (some ⟨w.heap.size, 0, none⟩) n n) (w.alloc (.cells (madeCells #[.int .i64 0] n) 3)) := by
  obtain ⟨i0, hi, hz0, hz1, hz2⟩ := infoI
  have h := run_make (P := Tryd.prog) w 39 3 i0 _ Tryd.underlying39 hi hz0 .i64 .i64 n n (by omega) (Int.le_refl _) (by rw [hz2]; omega) (by omega)
  simp only [Int.toNat_natCast, hz1, Nat.mul_one] at h
  exact h

theorem On.made (w : World) (n : Nat) : On w (w.alloc (.cells (madeCells #[.int .i64 0] n) 3)) w.heap.size n (fun _ => .int .i64 0) :=
  ⟨al_below _ _, fv_made w _ n _, wv_made w _ n _, Nat.le_refl _, by rw [al_size]; omega⟩

/-- A place more. -/
theorem tv_step (P : Nat → Nat → Bool) (L : List (Nat → Bool)) (j : Nat) (M : List Nat) {q : Nat} (h : q < M.length) (n : Nat) : ∀ t, t < n → updV (tv P L j M q) M[q] (.int .i64 (((tq P L j M[q] + (M.take q).count M[q] : Nat) : Int) + 1)) t = tv P L j M (q + 1) t := fun t _ => by
  unfold updV tv
  rw [count_step M t h]
  by_cases e : t = M[q]
  · rw [if_pos e, if_pos e, e]
    congr 1
  · rw [if_neg e, if_neg e]
    rfl

theorem On.step {w0 wi : World} {gt n j q i x : Nat} {P : Nat → Nat → Bool} {L : List (Nat → Bool)} {M : List Nat} (h : On w0 wi gt n (tv P L j M q)) (hq : q < M.length) (hi : M[q] = i) (hin : i < n) (hx : tq P L j i + (M.take q).count i = x) : On w0 (wi.setCell ⟨gt, i, none⟩ (.int .i64 ((x : Int) + 1))) gt n (tv P L j M (q + 1)) := by
  subst hi
  subst hx
  exact (h.set hin _).congr (tv_step P L j M hq n)

theorem tv_at {w0 wi : World} {gt n j q i : Nat} {P : Nat → Nat → Bool} {L : List (Nat → Bool)} {M : List Nat} (h : On w0 wi gt n (tv P L j M q)) (hin : i < n) : ∃ x : Nat, tq P L j i + (M.take q).count i = x ∧ x ≤ j + q ∧ wi.cell? ⟨gt, i, none⟩ = some (.int .i64 ((x : Nat) : Int)) :=
  ⟨_, rfl, Nat.add_le_add (tq_le P L j i) (count_le M q i), h.row i hin⟩

/-- A kind more. -/
theorem tv_next (P : Nat → Nat → Bool) (L : List (Nat → Bool)) {j n : Nat} (h : j < L.length) (N : List Nat) : ∀ t, t < n → tv P L j (wh P (at' L j) n) (wh P (at' L j) n).length t = tv P L (j + 1) N 0 t := fun t ht => by
  unfold tv
  rw [List.take_length, wh_count P _ ht, tq_succ P L t h, List.take_zero]
  rfl

theorem tv_first (P : Nat → Nat → Bool) (L : List (Nat → Bool)) (n : Nat) (N : List Nat) : ∀ t, t < n → (fun _ => Value.int .i64 0 : Nat → Value) t = tv P L 0 N 0 t := fun t _ => by
  unfold tv
  rw [tq_zero, List.take_zero]
  rfl

theorem tv_start (P : Nat → Nat → Bool) (L : List (Nat → Bool)) (j n : Nat) (N M : List Nat) : ∀ t, t < n → tv P L j N 0 t = tv P L j M 0 t := fun t _ => by
  unfold tv
  rw [List.take_zero, List.take_zero]

theorem tv_end (P : Nat → Nat → Bool) (n : Nat) (N : List Nat) : ∀ t, t < n → tv P (kd P n) (kd P n).length N 0 t = .int .i64 (((!fr (P t)).toNat : Nat) : Int) := fun t ht => by
  unfold tv
  rw [tq_end P ht, List.take_zero]
  rfl

end Cls
end Go.Proofs.YtcohcdebbkfdfaaDoor
