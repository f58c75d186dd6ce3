/- Parameters: a row of classes; two numbers by value; two texts by value. -/
import Derived.Test.YtlogdjhnhnfbkaaDoorLfOpen
import Derived.Test.YtlogdjhnhnfbkaaDoorArr
import Derived.Test.YtlogdjhnhnfbkaaDoorSlices
import Derived.ChangeMaps5
namespace Go.Proofs.YtlogdjhnhnfbkaaDoor
open Go.ChangeShapes Go.WideShapes Go.ChangeAt Go.RowKit
namespace Cls

set_option maxRecDepth 100000 in
/-- A row of classes. -/
theorem open_classes {H : Type} {enc : TypeId × Value → H} {W : World} {base : Nat} {r : Reach} {b0 : Nat} {spare : Nat → Bool} {held : Bool} {v : Value} {d : DataW H} {p : List MemPlace} (hv : Value.okWide Tryd.prog W r b0 22 v) (h : DataW.Trod enc Tryd.prog W base spare held 22 v d p) :
    ∃ ao n cap Q, v = .slice ao n cap ∧ Lp W ao n Q := by
  obtain ⟨ao, n, cap, rfl⟩ := okWide_slice Tryd.underlying22 hv
  obtain ⟨fuel, hf⟩ := h
  obtain ⟨ao', m, cap', Q, e, hl⟩ := read_row (t := 51) (e := 49) (v := .slice ao n cap) Tryd.underlying22 Tryd.underlying51 Tryd.underlying49 (by kernel_rfl) (by kernel_rfl) (by simpa [Value.cells] using hf)
  exact ⟨ao', m, cap', Q, e, hl⟩

set_option maxRecDepth 100000 in
/-- A size, and how often. -/
theorem open_ask {H : Type} {enc : TypeId × Value → H} {W : World} {base : Nat} {r : Reach} {b0 : Nat} {spare : Nat → Bool} {held : Bool} {v : Value} {d : DataW H} {p : List MemPlace} (hv : Value.okWide Tryd.prog W r b0 40 v) (h : DataW.Trod enc Tryd.prog W base spare held 40 v d p) :
    ∃ x y : Int, v = .agg #[.int .i64 x, .int .i64 y] ∧ (Lit.int .i64 x).wf = true ∧ (Lit.int .i64 y).wf = true := by
  obtain ⟨v0, v1, y0, y1, n, rfl, _, _, h0, h1⟩ := Joins.open_agg2 Tryd.underlying40 (by kernel_rfl) (by kernel_rfl) hv h
  obtain ⟨x, hc, _, hx⟩ := DataW.trod_int (k := .i64) Tryd.underlying3 h0
  simp at hc
  subst hc
  obtain ⟨y, hc, _, hy⟩ := DataW.trod_int (k := .i64) Tryd.underlying3 h1
  simp at hc
  subst hc
  exact ⟨x, y, rfl, hx, hy⟩

set_option maxRecDepth 100000 in
/-- Two texts. -/
theorem open_texts {H : Type} {enc : TypeId × Value → H} {W : World} {base : Nat} {r : Reach} {b0 : Nat} {spare : Nat → Bool} {held : Bool} {v : Value} {d : DataW H} {p : List MemPlace} (hv : Value.okWide Tryd.prog W r b0 45 v) (h : DataW.Trod enc Tryd.prog W base spare held 45 v d p) :
    ∃ s u : ByteArray, v = .agg #[.string s, .string u] ∧ s.size ≤ maxLen ∧ u.size ≤ maxLen := by
  have hct : Tryd.prog.cellsOf 45 = 2 := by kernel_rfl
  have hce : Tryd.prog.cellsOf 9 = 1 := by kernel_rfl
  obtain ⟨cs, rfl, hsz⟩ := okWide_arr Tryd.underlying45 hv
  rw [hct] at hsz
  obtain ⟨fuel, hf⟩ := h
  obtain ⟨xs, m, rfl, hx, hlen, hxl, hel⟩ := DataW.trod_array Tryd.underlying45 hf
  have each : ∀ i, i < 2 → ∃ s : ByteArray, cs[i]? = some (.string s) ∧ s.size ≤ maxLen := by
    intro i hi
    have h1 := hel i hi
    rw [List.getElem?_eq_getElem (by omega)] at h1
    obtain ⟨s, hc, _, hs⟩ := DataW.trod_string Tryd.underlying9 h1
    refine ⟨s, ?_, hs⟩
    have := congrArg (·[0]?) hc
    simpa [List.getElem?_take, List.getElem?_drop, hce, Value.cells] using this
  obtain ⟨s, h0, hs⟩ := each 0 (by omega)
  obtain ⟨u, h1, hu⟩ := each 1 (by omega)
  refine ⟨s, u, ?_, hs, hu⟩
  congr 1
  apply Array.ext_getElem?
  intro i
  match i with
  | 0 => rw [h0]; rfl
  | 1 => rw [h1]; rfl
  | i + 2 => rw [Array.getElem?_eq_none (by omega), Array.getElem?_eq_none (by simp)]

end Cls
end Go.Proofs.YtlogdjhnhnfbkaaDoor
