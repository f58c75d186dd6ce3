/- Parameters: a token by value; a row of tokens; a row of ints. -/
import Derived.Test.YtbnnobeahliffaaGreatDoorLfOpen
import Derived.Test.YtbnnobeahliffaaGreatDoorArr
import Derived.ChangeMaps5
import Derived.Deep.Slices
namespace Go.Proofs.YtbnnobeahliffaaGreatDoor
open Go.ChangeShapes Go.WideShapes Go.ChangeAt Go.RowKit
namespace Cls

set_option maxRecDepth 100000 in
/-- A token. -/
theorem open_token {H : Type} {enc : TypeId × Value → H} {W : World} {base : Nat} {r : Reach} {b0 : Nat} {spare : Nat → Bool} {held : Bool} {v : Value} {d : DataW H} {p : List MemPlace} (hv : Value.okWide Tryz.prog W r b0 56 v) (h : DataW.Trod enc Tryz.prog W base spare held 56 v d p) :
    ∃ k a m ao n cap Q, v = .agg #[.int .i64 k, .int .i64 a, .int .i64 m, .slice ao n cap] ∧ (Lit.int .i64 k).wf = true ∧ (Lit.int .i64 a).wf = true ∧ (Lit.int .i64 m).wf = true ∧ Lp W ao n Q := by
  obtain ⟨v0, v1, v2, v3, y0, y1, y2, y3, n, rfl, _, _, h0, h1, h2, h3⟩ := Joins.open_agg4 Tryz.underlying56 (by kernel_rfl) (by kernel_rfl) hv h
  obtain ⟨k, hc, _, hk⟩ := DataW.trod_int (k := .i64) Tryz.underlying3 h0
  simp at hc
  subst hc
  obtain ⟨a, hc, _, ha⟩ := DataW.trod_int (k := .i64) Tryz.underlying3 h1
  simp at hc
  subst hc
  obtain ⟨m, hc, _, hm⟩ := DataW.trod_int (k := .i64) Tryz.underlying3 h2
  simp at hc
  subst hc
  obtain ⟨ao, l, cap, Q, rfl, hl⟩ := read_row (t := 67) (e := 65) Tryz.underlying32 Tryz.underlying67 Tryz.underlying65 (by kernel_rfl) (by kernel_rfl) h3
  exact ⟨k, a, m, ao, l, cap, Q, rfl, hk, ha, hm, hl⟩

/-- A token of a row that came in. -/
structure To (w : World) (b o : Nat) (k a m : Int) (ao : Option Addr) (l cap : Nat) (Q : Nat → Nat → Bool) : Prop where
  c0 : w.cell? ⟨b, o, none⟩ = some (.int .i64 k)
  c1 : w.cell? ⟨b, o + 1, none⟩ = some (.int .i64 a)
  c2 : w.cell? ⟨b, o + 2, none⟩ = some (.int .i64 m)
  c3 : w.cell? ⟨b, o + 3, none⟩ = some (.slice ao l cap)
  lp : Lp w ao l Q

/-- A row of tokens that came in. -/
structure Tos (w : World) (so : Option Addr) (n : Nat) (K A M : Nat → Int) (ao : Nat → Option Addr) (l cap : Nat → Nat) (Q : Nat → Nat → Nat → Bool) : Prop where
  small : n ≤ 9223372036854775807
  lies : 1 ≤ n → ∃ b o, so = some ⟨b, o, none⟩ ∧ b < w.heap.size ∧ ∀ t, t < n → To w b (o + t * 4) (K t) (A t) (M t) (ao t) (l t) (cap t) (Q t)

set_option maxRecDepth 100000 in
/-- A token's cells. -/
theorem read_token {H : Type} {enc : TypeId × Value → H} {W : World} {base : Nat} {spare : Nat → Bool} {held : Bool} {fuel : Nat} {cs : List Value} {x : DataW H × List MemPlace} (h : DataW.trod enc Tryz.prog W base spare held fuel 56 cs = some x) :
    ∃ k a m ao l cap Q, cs = [.int .i64 k, .int .i64 a, .int .i64 m, .slice ao l cap] ∧ Lp W ao l Q := by
  obtain ⟨y0, y1, y2, y3, n, _, hl, h0, h1, h2, h3⟩ := Joins.trod_struct4 Tryz.underlying56 h
  have hlen : cs.length = 4 := by rw [hl]; kernel_rfl
  match cs, hlen with
  | [u0, u1, u2, u3], _ =>
    obtain ⟨k, hc, _, _⟩ := DataW.trod_int (k := .i64) Tryz.underlying3 h0
    obtain ⟨a, hc1, _, _⟩ := DataW.trod_int (k := .i64) Tryz.underlying3 h1
    obtain ⟨m, hc2, _, _⟩ := DataW.trod_int (k := .i64) Tryz.underlying3 h2
    simp at hc hc1 hc2
    obtain ⟨ao, l, cap, Q, rfl, hp⟩ := read_row (v := u3) (t := 67) (e := 65) Tryz.underlying32 Tryz.underlying67 Tryz.underlying65 (by kernel_rfl) (by kernel_rfl) h3
    have ce : Tryz.prog.cellsOf 3 = 1 := by kernel_rfl
    rw [ce] at hc hc1 hc2
    simp only [List.take_succ_cons, List.take_zero, List.cons.injEq, and_true] at hc hc1 hc2
    subst hc hc1 hc2
    exact ⟨k, a, m, ao, l, cap, Q, rfl, hp⟩

set_option maxRecDepth 100000 in
/-- A row of tokens. -/
theorem open_tokens {H : Type} {enc : TypeId × Value → H} {W : World} {base : Nat} {r : Reach} {b0 : Nat} {spare : Nat → Bool} {held : Bool} {v : Value} {d : DataW H} {p : List MemPlace} (hv : Value.okWide Tryz.prog W r b0 49 v) (h : DataW.Trod enc Tryz.prog W base spare held 49 v d p) :
    ∃ so n cap K A M ao l c Q, v = .slice so n cap ∧ Tos W so n K A M ao l c Q := by
  obtain ⟨so, n, cap, rfl⟩ := okWide_slice Tryz.underlying49 hv
  obtain ⟨fuel, hf⟩ := h
  have hct : Tryz.prog.cellsOf 56 = 4 := by kernel_rfl
  rcases Deep.open_slice Tryz.underlying49 hf with ⟨hcs, _⟩ | ⟨a, len, cap', m, n', D, Pl, hcs, hb, hl, hm, hmm, _, hx⟩
  · simp [Value.cells] at hcs
    obtain ⟨rfl, rfl, rfl⟩ := hcs
    exact ⟨none, 0, 0, fun _ => 0, fun _ => 0, fun _ => 0, fun _ => none, fun _ => 0, fun _ => 0, fun _ _ _ => false, rfl, by omega, fun h => by omega⟩
  · simp [Value.cells] at hcs
    obtain ⟨rfl, rfl, rfl⟩ := hcs
    have hle : n ≤ m := by rw [hmm]; split <;> omega
    obtain ⟨F, hF⟩ := Deep.choose_lt (α := Int × Int × Int × Option Addr × Nat × Nat × (Nat → Nat → Bool)) (n := n) (p := fun i f => ((W.cell? (a.add (i * 4)) = some (.int .i64 f.1) ∧ W.cell? ((a.add (i * 4)).add 1) = some (.int .i64 f.2.1) ∧ W.cell? ((a.add (i * 4)).add 2) = some (.int .i64 f.2.2.1) ∧ W.cell? ((a.add (i * 4)).add 3) = some (.slice f.2.2.2.1 f.2.2.2.2.1 f.2.2.2.2.2.1)) ∧ Lp W f.2.2.2.1 f.2.2.2.2.1 f.2.2.2.2.2.2)) (fun i hi => by
      obtain ⟨cs', h1, h2⟩ := hx i (by omega)
      rw [hct] at h1
      obtain ⟨k, a', m', ao, l, c, Q, rfl, hp⟩ := read_token h2
      obtain ⟨_, hlen, hc⟩ := World.cells?_some h1
      have g0 := hc 0 (by omega)
      have g1 := hc 1 (by omega)
      have g2 := hc 2 (by omega)
      have g3 := hc 3 (by omega)
      exact ⟨(k, a', m', ao, l, c, Q), ⟨by simpa [Deep.add_add] using g0, g1, g2, g3⟩, hp⟩)
    refine ⟨some a, n, cap, fun t => (F t).1, fun t => (F t).2.1, fun t => (F t).2.2.1, fun t => (F t).2.2.2.1, fun t => (F t).2.2.2.2.1, fun t => (F t).2.2.2.2.2.1, fun t => (F t).2.2.2.2.2.2, rfl, by unfold maxLen at hm; omega, fun hn => ?_⟩
    have h0 := (hF 0 (by omega)).1.1
    rw [Nat.zero_mul] at h0
    obtain ⟨b, o, rfl⟩ := spot_none' h0
    refine ⟨b, o, rfl, ?_, fun t ht => ?_⟩
    · rw [add_plain'] at h0
      exact World.block_lt_of_cell? W _ h0
    · obtain ⟨⟨g0, g1, g2, g3⟩, hp⟩ := hF t ht
      rw [Deep.add_add, add_plain'] at g1 g2 g3
      rw [add_plain'] at g0
      exact ⟨g0, by rw [Nat.add_assoc]; exact g1, by rw [Nat.add_assoc]; exact g2, by rw [Nat.add_assoc]; exact g3, hp⟩

/-- A row of ints that came in. -/
structure Ios (w : World) (so : Option Addr) (n : Nat) (B : Nat → Int) : Prop where
  small : n ≤ 9223372036854775807
  lies : 1 ≤ n → ∃ b o, so = some ⟨b, o, none⟩ ∧ b < w.heap.size ∧ ∀ t, t < n → w.cell? ⟨b, o + t, none⟩ = some (.int .i64 (B t)) ∧ (Lit.int .i64 (B t)).wf = true

set_option maxRecDepth 100000 in
/-- A row of ints. -/
theorem open_irow {H : Type} {enc : TypeId × Value → H} {W : World} {base : Nat} {r : Reach} {b0 : Nat} {spare : Nat → Bool} {held : Bool} {v : Value} {d : DataW H} {p : List MemPlace} (hv : Value.okWide Tryz.prog W r b0 71 v) (h : DataW.Trod enc Tryz.prog W base spare held 71 v d p) :
    ∃ so n cap B, v = .slice so n cap ∧ Ios W so n B := by
  obtain ⟨so, n, cap, rfl⟩ := okWide_slice Tryz.underlying71 hv
  obtain ⟨fuel, hf⟩ := h
  have hct : Tryz.prog.cellsOf 3 = 1 := by kernel_rfl
  rcases Deep.open_slice Tryz.underlying71 hf with ⟨hcs, _⟩ | ⟨a, len, cap', m, n', D, Pl, hcs, hb, hl, hm, hmm, _, hx⟩
  · simp [Value.cells] at hcs
    obtain ⟨rfl, rfl, rfl⟩ := hcs
    exact ⟨none, 0, 0, fun _ => 0, rfl, by omega, fun h => by omega⟩
  · simp [Value.cells] at hcs
    obtain ⟨rfl, rfl, rfl⟩ := hcs
    have hle : n ≤ m := by rw [hmm]; split <;> omega
    obtain ⟨F, hF⟩ := Deep.choose_lt (α := Int) (n := n) (p := fun i f => W.cell? ((a.add i).add 0) = some (.int .i64 f) ∧ (Lit.int .i64 f).wf = true) (fun i hi => by
      obtain ⟨cs', h1, h2⟩ := hx i (by omega)
      rw [hct] at h1
      obtain ⟨z, hc, _, hw⟩ := DataW.trod_int (k := .i64) Tryz.underlying3 h2
      subst hc
      obtain ⟨_, hlen, hcc⟩ := World.cells?_some h1
      have g0 := hcc 0 (by omega)
      rw [Nat.mul_one] at g0
      exact ⟨z, g0, hw⟩)
    refine ⟨some a, n, cap, F, rfl, by unfold maxLen at hm; omega, fun hn => ?_⟩
    have h0 := (hF 0 (by omega)).1
    rw [Deep.add_add] at h0
    obtain ⟨b, o, rfl⟩ := spot_none' h0
    refine ⟨b, o, rfl, ?_, fun t ht => ?_⟩
    · rw [add_plain'] at h0
      exact World.block_lt_of_cell? W _ h0
    · obtain ⟨g0, hw⟩ := hF t ht
      rw [Deep.add_add, add_plain'] at g0
      exact ⟨g0, hw⟩

end Cls
end Go.Proofs.YtbnnobeahliffaaGreatDoor
