/- Parameters: a row of nodes. -/
import Derived.Test.YtbnnobeahliffaaGreatDoorLfOpen
import Derived.Test.YtbnnobeahliffaaGreatDoorArr
import Derived.ChangeMaps5
import Derived.ChangeSame
import Derived.Deep.Slices
import Derived.Deep.Strs
namespace Go.Proofs.YtbnnobeahliffaaGreatDoor
open Go.ChangeShapes Go.WideShapes Go.ChangeAt Go.RowKit
namespace Cls

/-- A node of a row that came in. -/
structure No (w : World) (b o : Nat) (k m : Int) (ao : Option Addr) (l cap : Nat) (j : Int) (Q : Nat → Nat → Bool) : Prop where
  c0 : w.cell? ⟨b, o, none⟩ = some (.int .i64 k)
  c1 : w.cell? ⟨b, o + 1, none⟩ = some (.int .i64 m)
  c2 : w.cell? ⟨b, o + 2, none⟩ = some (.slice ao l cap)
  c3 : w.cell? ⟨b, o + 3, none⟩ = some (.int .i64 j)
  lp : Lp w ao l Q

/-- A row of nodes that came in. -/
structure Nos (w : World) (so : Option Addr) (n : Nat) (K M : Nat → Int) (ao : Nat → Option Addr) (l cap : Nat → Nat) (J : Nat → Int) (Q : Nat → Nat → Nat → Bool) : Prop where
  small : n ≤ 9223372036854775807
  lies : 1 ≤ n → ∃ b o, so = some ⟨b, o, none⟩ ∧ b < w.heap.size ∧ ∀ t, t < n → No w b (o + t * 4) (K t) (M t) (ao t) (l t) (cap t) (J t) (Q t)

set_option maxRecDepth 100000 in
/-- A node's cells. -/
theorem read_node {H : Type} {enc : TypeId × Value → H} {W : World} {base : Nat} {spare : Nat → Bool} {held : Bool} {fuel : Nat} {cs : List Value} {x : DataW H × List MemPlace} (h : DataW.trod enc Tryz.prog W base spare held fuel 36 cs = some x) :
    ∃ k m ao l cap j Q, cs = [.int .i64 k, .int .i64 m, .slice ao l cap, .int .i64 j] ∧ Lp W ao l Q := by
  obtain ⟨y0, y1, y2, n, _, hl, h0, h1, h2⟩ := Deep.trod_struct3 Tryz.underlying36 h
  have hlen : cs.length = 4 := by rw [hl]; kernel_rfl
  match cs, hlen with
  | [u0, u1, u2, u3], _ =>
    obtain ⟨k, hc, _, _⟩ := DataW.trod_int (k := .i64) Tryz.underlying3 h0
    obtain ⟨m, hc1, _, _⟩ := DataW.trod_int (k := .i64) Tryz.underlying3 h1
    have ce : Tryz.prog.cellsOf 3 = 1 := by kernel_rfl
    have cl : Tryz.prog.cellsOf 34 = 2 := by kernel_rfl
    simp only [cl] at h2
    obtain ⟨z0, z1, n2, _, _, g0, g1⟩ := trod_struct2 Tryz.underlying34 h2
    obtain ⟨j, hc3, _, _⟩ := DataW.trod_int (k := .i64) Tryz.underlying3 g1
    have cs1 : Tryz.prog.cellsOf 32 = 1 := by kernel_rfl
    simp only [cs1] at g0
    obtain ⟨ao, l, cap, Q, hu, hp⟩ := read_row (v := u2) (t := 67) (e := 65) Tryz.underlying32 Tryz.underlying67 Tryz.underlying65 (by kernel_rfl) (by kernel_rfl) g0
    rw [ce] at hc hc1 hc3
    simp at hc hc1 hc3
    subst hc hc1 hc3 hu
    exact ⟨k, m, ao, l, cap, j, Q, rfl, hp⟩

set_option maxRecDepth 100000 in
/-- A row of nodes. -/
theorem open_nodes {H : Type} {enc : TypeId × Value → H} {W : World} {base : Nat} {r : Reach} {b0 : Nat} {spare : Nat → Bool} {held : Bool} {v : Value} {d : DataW H} {p : List MemPlace} (hv : Value.okWide Tryz.prog W r b0 23 v) (h : DataW.Trod enc Tryz.prog W base spare held 23 v d p) :
    ∃ so n cap K M ao l c J Q, v = .slice so n cap ∧ Nos W so n K M ao l c J Q := by
  obtain ⟨so, n, cap, rfl⟩ := okWide_slice Tryz.underlying23 hv
  obtain ⟨fuel, hf⟩ := h
  have hct : Tryz.prog.cellsOf 36 = 4 := by kernel_rfl
  rcases Deep.open_slice Tryz.underlying23 hf with ⟨hcs, _⟩ | ⟨a, len, cap', m, n', D, Pl, hcs, hb, hl, hm, hmm, _, hx⟩
  · simp [Value.cells] at hcs
    obtain ⟨rfl, rfl, rfl⟩ := hcs
    exact ⟨none, 0, 0, fun _ => 0, fun _ => 0, fun _ => none, fun _ => 0, fun _ => 0, fun _ => 0, fun _ _ _ => false, rfl, by omega, fun h => by omega⟩
  · simp [Value.cells] at hcs
    obtain ⟨rfl, rfl, rfl⟩ := hcs
    have hle : n ≤ m := by rw [hmm]; split <;> omega
    obtain ⟨F, hF⟩ := Deep.choose_lt (α := Int × Int × Option Addr × Nat × Nat × Int × (Nat → Nat → Bool)) (n := n) (p := fun i f => ((W.cell? (a.add (i * 4)) = some (.int .i64 f.1) ∧ W.cell? ((a.add (i * 4)).add 1) = some (.int .i64 f.2.1) ∧ W.cell? ((a.add (i * 4)).add 2) = some (.slice f.2.2.1 f.2.2.2.1 f.2.2.2.2.1) ∧ W.cell? ((a.add (i * 4)).add 3) = some (.int .i64 f.2.2.2.2.2.1)) ∧ Lp W f.2.2.1 f.2.2.2.1 f.2.2.2.2.2.2)) (fun i hi => by
      obtain ⟨cs', h1, h2⟩ := hx i (by omega)
      rw [hct] at h1
      obtain ⟨k, m', ao, l, c, j, Q, rfl, hp⟩ := read_node h2
      obtain ⟨_, hlen, hc⟩ := World.cells?_some h1
      have g0 := hc 0 (by omega)
      have g1 := hc 1 (by omega)
      have g2 := hc 2 (by omega)
      have g3 := hc 3 (by omega)
      exact ⟨(k, m', ao, l, c, j, Q), ⟨by simpa [Deep.add_add] using g0, g1, g2, g3⟩, hp⟩)
    refine ⟨some a, n, cap, fun t => (F t).1, fun t => (F t).2.1, fun t => (F t).2.2.1, fun t => (F t).2.2.2.1, fun t => (F t).2.2.2.2.1, fun t => (F t).2.2.2.2.2.1, fun t => (F t).2.2.2.2.2.2, rfl, by unfold maxLen at hm; omega, fun hn => ?_⟩
    have h0 := (hF 0 (by omega)).1.1
    rw [Nat.zero_mul] at h0
    obtain ⟨b, o, rfl⟩ := spot_none' h0
    refine ⟨b, o, rfl, ?_, fun t ht => ?_⟩
    · rw [add_plain'] at h0
      exact World.block_lt_of_cell? W _ h0
    · obtain ⟨⟨g0, g1, g2, g3⟩, hp⟩ := hF t ht
      rw [Deep.add_add, add_plain'] at g1 g2 g3
      rw [add_plain'] at g0
      exact ⟨g0, by rw [Nat.add_assoc]; exact g1, by rw [Nat.add_assoc]; exact g2, by rw [Nat.add_assoc]; exact g3, hp⟩

end Cls
end Go.Proofs.YtbnnobeahliffaaGreatDoor
