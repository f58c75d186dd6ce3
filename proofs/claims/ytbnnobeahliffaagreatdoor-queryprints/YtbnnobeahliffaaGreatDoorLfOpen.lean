/- A leaf as a parameter: what the walk is told of it; the law's few. Of the program only its types' numbers and few. -/
import Derived.Test.YtbnnobeahliffaaGreatDoorLfA
import Derived.Test.YtbnnobeahliffaaGreatDoorClsLaid
import Derived.Lib.SmallJoins
namespace Go.Proofs.YtbnnobeahliffaaGreatDoor
open Go.ChangeShapes Go.WideShapes Go.ChangeAt Go.RowKit
namespace Cls

/-- A slice of n classes that came in. -/
structure Lp (w : World) (ao : Option Addr) (n : Nat) (P : Nat → Nat → Bool) : Prop where
  small : n ≤ 9223372036854775807
  lies : 1 ≤ n → ∃ b o, ao = some ⟨b, o, none⟩ ∧ b < w.heap.size ∧ Cl w b o n P

theorem Lp.lf {w : World} {ao : Option Addr} {n : Nat} {P : Nat → Nat → Bool} (h : Lp w ao n P) (hn : n ≤ 100) : Lf w ao n P := ⟨by omega, h.lies⟩

theorem Lp.grow {w w' : World} {ao : Option Addr} {n : Nat} {P : Nat → Nat → Bool} (h : Lp w ao n P) (hb : Below w.heap.size w w') : Lp w' ao n P :=
  ⟨h.small, fun hn => by
    obtain ⟨b, o, e, hlt, hc⟩ := h.lies hn
    exact ⟨b, o, e, Nat.lt_of_lt_of_le hlt hb.size, hc.below hb hlt⟩⟩

theorem spot_none' {w : World} {x : Addr} {v : Value} (h : w.cell? (x.add 0) = some v) : ∃ b o, x = ⟨b, o, none⟩ := by
  obtain ⟨b, o, s⟩ := x
  cases s with
  | none => exact ⟨b, o, rfl⟩
  | some s =>
    unfold World.cell? Addr.add at h
    simp at h
    split at h <;> simp at h

theorem add_plain' (b o j : Nat) : (⟨b, o, none⟩ : Addr).add j = ⟨b, o + j, none⟩ := by unfold Addr.add; split <;> simp_all

section
variable {H : Type} {enc : TypeId × Value → H} {P : Program} {w : World} {base : Nat} {spare : Nat → Bool} {held : Bool}

/-- The four words of a class that is read. -/
theorem read4 {t e : TypeId} {fuel : Nat} {cs : List Value} {x : DataW H × List MemPlace} (ht : P.underlying t = some (.array 4 e)) (he : P.underlying e = some (.int .u64)) (hce : P.cellsOf e = 1)
    (h : DataW.trod enc P w base spare held fuel t cs = some x) : ∃ f : Nat → Bool, ∀ k, k < 4 → cs[k]? = some (.int .u64 ((wd f k : Nat) : Int)) := by
  obtain ⟨xs, m, rfl, hx, hlen, hxl, hel⟩ := DataW.trod_array ht h
  have each : ∀ i, i < 4 → ∃ z, cs[i]? = some (.int .u64 z) ∧ (Lit.int .u64 z).wf = true := by
    intro i hi
    have h1 := hel i hi
    rw [List.getElem?_eq_getElem (by omega)] at h1
    obtain ⟨z, hc, _, hw⟩ := DataW.trod_int he h1
    refine ⟨z, ?_, hw⟩
    have := congrArg (·[0]?) hc
    simpa [List.getElem?_take, List.getElem?_drop, hce] using this
  obtain ⟨x0, c0, w0⟩ := each 0 (by omega)
  obtain ⟨x1, c1, w1⟩ := each 1 (by omega)
  obtain ⟨x2, c2, w2⟩ := each 2 (by omega)
  obtain ⟨x3, c3, w3⟩ := each 3 (by omega)
  obtain ⟨f, rfl, rfl, rfl, rfl⟩ := class_of w0 w1 w2 w3
  refine ⟨f, fun k hk => ?_⟩
  match k, hk with
  | 0, _ => exact c0
  | 1, _ => exact c1
  | 2, _ => exact c2
  | 3, _ => exact c3

/-- A row of classes that is read. -/
theorem read_row {ts t e : TypeId} {fuel : Nat} {v : Value} {x : DataW H × List MemPlace} (hs : P.underlying ts = some (.slice t)) (ht : P.underlying t = some (.array 4 e)) (he : P.underlying e = some (.int .u64)) (hce : P.cellsOf e = 1) (hct : P.cellsOf t = 4)
    (h : DataW.trod enc P w base spare held fuel ts [v] = some x) : ∃ ao n cap Q, v = .slice ao n cap ∧ Lp w ao n Q := by
  rcases Deep.open_slice hs h with ⟨hcs, _⟩ | ⟨a, len, cap, m, n, D, Pl, hcs, hb, hl, hm, hmm, _, hx⟩
  · simp at hcs
    subst hcs
    exact ⟨none, 0, 0, fun _ _ => false, rfl, by omega, fun h => by omega⟩
  · simp at hcs
    subst hcs
    have hle : len ≤ m := by rw [hmm]; split <;> omega
    obtain ⟨Q, hQ⟩ := Deep.choose_lt (α := Nat → Bool) (n := len) (p := fun i f => ∀ k, k < 4 → w.cell? ((a.add (i * 4)).add k) = some (.int .u64 ((wd f k : Nat) : Int))) (fun i hi => by
      obtain ⟨cs', h1, h2⟩ := hx i (by omega)
      rw [hct] at h1
      obtain ⟨f, hf⟩ := read4 ht he hce h2
      obtain ⟨_, hlen, hc⟩ := World.cells?_some h1
      exact ⟨f, fun k hk => (hc k hk).trans (hf k hk)⟩)
    refine ⟨some a, len, cap, Q, rfl, by unfold maxLen at hm; omega, fun hn => ?_⟩
    have h0 := hQ 0 (by omega) 0 (by omega)
    rw [Nat.zero_mul, Deep.add_add] at h0
    obtain ⟨b, o, rfl⟩ := spot_none' h0
    refine ⟨b, o, rfl, ?_, fun t ht k hk => ?_⟩
    · rw [add_plain'] at h0
      exact World.block_lt_of_cell? w _ h0
    · have := hQ t ht k hk
      rw [Deep.add_add, add_plain'] at this
      rw [Nat.add_assoc]
      exact this
end

set_option maxRecDepth 100000 in
/-- A leaf. -/
theorem open_leaf {H : Type} {enc : TypeId × Value → H} {W : World} {base : Nat} {r : Reach} {b0 : Nat} {spare : Nat → Bool} {held : Bool} {v : Value} {d : DataW H} {p : List MemPlace} (hv : Value.okWide Tryz.prog W r b0 34 v) (h : DataW.Trod enc Tryz.prog W base spare held 34 v d p) :
    ∃ ao n cap Q K, v = .agg #[.slice ao n cap, .int .i64 K] ∧ Lp W ao n Q := by
  obtain ⟨v0, v1, y0, y1, n, rfl, _, _, h0, h1⟩ := Joins.open_agg2 Tryz.underlying34 (by kernel_rfl) (by kernel_rfl) hv h
  obtain ⟨ao, m, cap, Q, rfl, hl⟩ := read_row (t := 67) (e := 65) Tryz.underlying32 Tryz.underlying67 Tryz.underlying65 (by kernel_rfl) (by kernel_rfl) h0
  obtain ⟨z, hc, _, _⟩ := DataW.trod_int (k := .i64) Tryz.underlying3 h1
  simp at hc
  subst hc
  exact ⟨ao, m, cap, Q, z, rfl, hl⟩

end Cls
end Go.Proofs.YtbnnobeahliffaaGreatDoor
