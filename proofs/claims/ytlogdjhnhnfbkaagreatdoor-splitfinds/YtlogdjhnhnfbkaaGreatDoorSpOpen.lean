/- Parameters: a row of classes; two numbers by value; two texts by value. -/
import Derived.Test.YtlogdjhnhnfbkaaGreatDoorLfOpen
import Derived.Test.YtlogdjhnhnfbkaaGreatDoorArr
import Derived.Test.YtlogdjhnhnfbkaaGreatDoorSlices
import Derived.ChangeMaps5
namespace Go.Proofs.YtlogdjhnhnfbkaaGreatDoor
open Go.ChangeShapes Go.WideShapes Go.ChangeAt Go.RowKit
namespace Cls

set_option maxRecDepth 100000 in
/-- A row of classes. -/
theorem open_classes {H : Type} {enc : TypeId × Value → H} {W : World} {base : Nat} {r : Reach} {b0 : Nat} {spare : Nat → Bool} {held : Bool} {v : Value} {d : DataW H} {p : List MemPlace} (hv : Value.okWide Tryz.prog W r b0 22 v) (h : DataW.Trod enc Tryz.prog W base spare held 22 v d p) :
    ∃ ao n cap Q, v = .slice ao n cap ∧ Lp W ao n Q := by
  obtain ⟨ao, n, cap, rfl⟩ := okWide_slice Tryz.underlying22 hv
  obtain ⟨fuel, hf⟩ := h
  obtain ⟨ao', m, cap', Q, e, hl⟩ := read_row (t := 41) (e := 39) (v := .slice ao n cap) Tryz.underlying22 Tryz.underlying41 Tryz.underlying39 (by kernel_rfl) (by kernel_rfl) (by simpa [Value.cells] using hf)
  exact ⟨ao', m, cap', Q, e, hl⟩

set_option maxRecDepth 100000 in
/-- A size, and how often. -/
theorem open_ask {H : Type} {enc : TypeId × Value → H} {W : World} {base : Nat} {r : Reach} {b0 : Nat} {spare : Nat → Bool} {held : Bool} {v : Value} {d : DataW H} {p : List MemPlace} (hv : Value.okWide Tryz.prog W r b0 26 v) (h : DataW.Trod enc Tryz.prog W base spare held 26 v d p) :
    ∃ x y : Int, v = .agg #[.int .i64 x, .int .i64 y] ∧ (Lit.int .i64 x).wf = true ∧ (Lit.int .i64 y).wf = true := by
  obtain ⟨v0, v1, y0, y1, n, rfl, _, _, h0, h1⟩ := Joins.open_agg2 Tryz.underlying26 (by kernel_rfl) (by kernel_rfl) hv h
  obtain ⟨x, hc, _, hx⟩ := DataW.trod_int (k := .i64) Tryz.underlying3 h0
  simp at hc
  subst hc
  obtain ⟨y, hc, _, hy⟩ := DataW.trod_int (k := .i64) Tryz.underlying3 h1
  simp at hc
  subst hc
  exact ⟨x, y, rfl, hx, hy⟩

end Cls
end Go.Proofs.YtlogdjhnhnfbkaaGreatDoor
