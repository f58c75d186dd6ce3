/- A leaf as a parameter, with what its reading weighs (for an 'Upto' statement). -/
import Derived.Test.YtpogipingefkaaaLfOpen
import Derived.Test.YtpogipingefkaaaRows
namespace Go.Proofs.Ytpogipingefkaaa
open Go.ChangeShapes Go.WideShapes Go.ChangeAt Go.RowKit
namespace Cls

theorem bulk_one {H : Type} (d : DataW H) : 1 ≤ Rows.uptoBulk d := by
  cases d with
  | lit l => cases l <;> simp [Rows.uptoBulk]
  | nil => simp [Rows.uptoBulk]
  | ptr d => simp [Rows.uptoBulk]
  | slice elems spare => simp [Rows.uptoBulk]
  | agg parts => simp [Rows.uptoBulk]
  | iface t d => simp [Rows.uptoBulk]
  | map entries => simp [Rows.uptoBulk]
  | held h => simp [Rows.uptoBulk]

theorem bulk_len {H : Type} (l : List (DataW H)) : l.length ≤ Rows.uptoBulkAll l := by
  induction l with
  | nil => simp [Rows.uptoBulkAll]
  | cons x r ih => have := bulk_one x; simp only [Rows.uptoBulkAll, List.length_cons]; omega

theorem open_leaf_d {H : Type} {enc : TypeId × Value → H} {W : World} {base : Nat} {r : Reach} {b0 : Nat} {spare : Nat → Bool} {held : Bool} {v : Value} {d : DataW H} {p : List MemPlace} (hv : Value.okWide Try.prog W r b0 24 v) (h : DataW.Trod enc Try.prog W base spare held 24 v d p) :
    ∃ ao n cap Q K, v = .agg #[.slice ao n cap, .int .i64 K] ∧ Lp W ao n Q ∧ n ≤ cap ∧ n ≤ Rows.uptoBulk d := by
  obtain ⟨v0, v1, y0, y1, k, rfl, rfl, _, h0, h1⟩ := Joins.open_agg2 Try.underlying24 (by kernel_rfl) (by kernel_rfl) hv h
  obtain ⟨ao, m, cap, Q, rfl, hl⟩ := read_row (t := 40) (e := 38) Try.underlying22 Try.underlying40 Try.underlying38 (by kernel_rfl) (by kernel_rfl) h0
  obtain ⟨z, hc, _, _⟩ := DataW.trod_int (k := .i64) Try.underlying3 h1
  simp at hc
  subst hc
  have hs : Try.prog.underlying 22 = some (.slice 40) := Try.underlying22
  have hm : m ≤ cap ∧ m ≤ Rows.uptoBulk y0.1 := by
    rcases Deep.open_slice hs h0 with ⟨hcs, _⟩ | ⟨a, len, cap', m', n', D, Pl, hcs, _, hl', _, _, hx, _⟩
    · simp at hcs
      omega
    · simp at hcs
      obtain ⟨_, rfl, rfl⟩ := hcs
      refine ⟨hl', ?_⟩
      rw [hx]
      have h1 := bulk_len ((List.range m).map D)
      simp at h1
      simp only [Rows.uptoBulk]
      omega
  refine ⟨ao, m, cap, Q, z, rfl, hl, hm.1, ?_⟩
  have := hm.2
  simp only [Rows.uptoBulk, Rows.uptoBulkAll]
  omega

end Cls
end Go.Proofs.Ytpogipingefkaaa
