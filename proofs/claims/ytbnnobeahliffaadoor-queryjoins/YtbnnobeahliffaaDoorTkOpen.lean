/- Parameters: a token by value; a row of tokens; a row of ints. -/
import Derived.Test.YtbnnobeahliffaaDoorLfOpen
import Derived.Test.YtbnnobeahliffaaDoorArr
import Derived.ChangeMaps5
import Derived.Deep.Slices
namespace Go.Proofs.YtbnnobeahliffaaDoor
open Go.ChangeShapes Go.WideShapes Go.ChangeAt Go.RowKit
namespace Cls

/-- A token of a row that came in. -/
structure To (w : World) (b o : Nat) (k a m : Int) (ao : Option Addr) (l cap : Nat) (Q : Nat → Nat → Bool) : Prop where
  c0 : w.cell? ⟨b, o, none⟩ = some (.int .i64 k)
  c1 : w.cell? ⟨b, o + 1, none⟩ = some (.int .i64 a)
  c2 : w.cell? ⟨b, o + 2, none⟩ = some (.int .i64 m)
  c3 : w.cell? ⟨b, o + 3, none⟩ = some (.slice ao l cap)
  lp : Lp w ao l Q

/-- A row of tokens that came in. -/
structure Tos (w : World) (so : Option Addr) (n : Nat) (K A M : Nat → Int) (ao : Nat → Option Addr) (l cap : Nat → Nat) (Q : Nat → Nat → Nat → Bool) : Prop where
  small : n ≤ 9223372036854775807
  lies : 1 ≤ n → ∃ b o, so = some ⟨b, o, none⟩ ∧ b < w.heap.size ∧ ∀ t, t < n → To w b (o + t * 4) (K t) (A t) (M t) (ao t) (l t) (cap t) (Q t)

/-- A row of ints that came in. -/
structure Ios (w : World) (so : Option Addr) (n : Nat) (B : Nat → Int) : Prop where
  small : n ≤ 9223372036854775807
  lies : 1 ≤ n → ∃ b o, so = some ⟨b, o, none⟩ ∧ b < w.heap.size ∧ ∀ t, t < n → w.cell? ⟨b, o + t, none⟩ = some (.int .i64 (B t)) ∧ (Lit.int .i64 (B t)).wf = true

set_option maxRecDepth 100000 in
/-- A row of ints. -/
theorem open_irow {H : Type} {enc : TypeId × Value → H} {W : World} {base : Nat} {r : Reach} {b0 : Nat} {spare : Nat → Bool} {held : Bool} {v : Value} {d : DataW H} {p : List MemPlace} (hv : Value.okWide Tryd.prog W r b0 45 v) (h : DataW.Trod enc Tryd.prog W base spare held 45 v d p) :
    ∃ so n cap B, v = .slice so n cap ∧ Ios W so n B := by
  obtain ⟨so, n, cap, rfl⟩ := okWide_slice Tryd.underlying45 hv
  obtain ⟨fuel, hf⟩ := h
  have hct : Tryd.prog.cellsOf 3 = 1 := by kernel_rfl
  rcases Deep.open_slice Tryd.underlying45 hf with ⟨hcs, _⟩ | ⟨a, len, cap', m, n', D, Pl, hcs, hb, hl, hm, hmm, _, hx⟩
  · simp [Value.cells] at hcs
    obtain ⟨rfl, rfl, rfl⟩ := hcs
    exact ⟨none, 0, 0, fun _ => 0, rfl, by omega, fun h => by omega⟩
  · simp [Value.cells] at hcs
    obtain ⟨rfl, rfl, rfl⟩ := hcs
    have hle : n ≤ m := by rw [hmm]; split <;> omega
    obtain ⟨F, hF⟩ := Deep.choose_lt (α := Int) (n := n) (p := fun i f => W.cell? ((a.add i).add 0) = some (.int .i64 f) ∧ (Lit.int .i64 f).wf = true) (fun i hi => by
      obtain ⟨cs', h1, h2⟩ := hx i (by omega)
      rw [hct] at h1
      obtain ⟨z, hc, _, hw⟩ := DataW.trod_int (k := .i64) Tryd.underlying3 h2
      subst hc
      obtain ⟨_, hlen, hcc⟩ := World.cells?_some h1
      have g0 := hcc 0 (by omega)
      rw [Nat.mul_one] at g0
      exact ⟨z, g0, hw⟩)
    refine ⟨some a, n, cap, F, rfl, by unfold maxLen at hm; omega, fun hn => ?_⟩
    have h0 := (hF 0 (by omega)).1
    rw [Deep.add_add] at h0
    obtain ⟨b, o, rfl⟩ := spot_none' h0
    refine ⟨b, o, rfl, ?_, fun t ht => ?_⟩
    · rw [add_plain'] at h0
      exact World.block_lt_of_cell? W _ h0
    · obtain ⟨g0, hw⟩ := hF t ht
      rw [Deep.add_add, add_plain'] at g0
      exact ⟨g0, hw⟩

end Cls
end Go.Proofs.YtbnnobeahliffaaDoor
