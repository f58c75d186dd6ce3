/- Parameters: a token by value. -/
import Derived.Test.YtljahelbbafhlaaDoorLfOpen
import Derived.Test.YtljahelbbafhlaaDoorArr
import Derived.ChangeMaps5
namespace Go.Proofs.YtljahelbbafhlaaDoor
open Go.ChangeShapes Go.WideShapes Go.ChangeAt Go.RowKit
namespace Cls

set_option maxRecDepth 100000 in
/-- A token. -/
theorem open_token {H : Type} {enc : TypeId × Value → H} {W : World} {base : Nat} {r : Reach} {b0 : Nat} {spare : Nat → Bool} {held : Bool} {v : Value} {d : DataW H} {p : List MemPlace} (hv : Value.okWide Tryd.prog W r b0 42 v) (h : DataW.Trod enc Tryd.prog W base spare held 42 v d p) :
    ∃ k a m ao n cap Q, v = .agg #[.int .i64 k, .int .i64 a, .int .i64 m, .slice ao n cap] ∧ (Lit.int .i64 k).wf = true ∧ (Lit.int .i64 a).wf = true ∧ (Lit.int .i64 m).wf = true ∧ Lp W ao n Q := by
  obtain ⟨v0, v1, v2, v3, y0, y1, y2, y3, n, rfl, _, _, h0, h1, h2, h3⟩ := Joins.open_agg4 Tryd.underlying42 (by kernel_rfl) (by kernel_rfl) hv h
  obtain ⟨k, hc, _, hk⟩ := DataW.trod_int (k := .i64) Tryd.underlying3 h0
  simp at hc
  subst hc
  obtain ⟨a, hc, _, ha⟩ := DataW.trod_int (k := .i64) Tryd.underlying3 h1
  simp at hc
  subst hc
  obtain ⟨m, hc, _, hm⟩ := DataW.trod_int (k := .i64) Tryd.underlying3 h2
  simp at hc
  subst hc
  obtain ⟨ao, l, cap, Q, rfl, hl⟩ := read_row (t := 35) (e := 33) Tryd.underlying38 Tryd.underlying35 Tryd.underlying33 (by kernel_rfl) (by kernel_rfl) h3
  exact ⟨k, a, m, ao, l, cap, Q, rfl, hk, ha, hm, hl⟩

end Cls
end Go.Proofs.YtljahelbbafhlaaDoor
