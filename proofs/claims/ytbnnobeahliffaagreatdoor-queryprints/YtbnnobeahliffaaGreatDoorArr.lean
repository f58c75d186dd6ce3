/- An array of integers as a parameter: taken apart, and put together. Nothing of the program. -/
import Derived.ProofKit
import Derived.OpenShut
namespace Go.Proofs.YtbnnobeahliffaaGreatDoor
open Go.ChangeShapes Go.WideShapes Go.ChangeAt Go.RowKit
section
variable {H : Type} {enc : TypeId × Value → H} {P : Program} {w : World} {base : Nat} {spare : Nat → Bool} {held : Bool}

theorem okWide_arr {r : Reach} {b0 : Nat} {t e : TypeId} {n : Nat} {v : Value} (ht : P.underlying t = some (.array n e)) (hv : Value.okWide P w r b0 t v) : ∃ cs, v = .agg cs ∧ cs.size = P.cellsOf t := by
  simp only [Value.okWide, ht] at hv
  obtain ⟨cs, h1, h2, _⟩ := hv
  exact ⟨cs, h1, h2⟩
/-- An array of integers, of whatever length. -/
theorem open_ints_arr {r : Reach} {b0 : Nat} {t e : TypeId} {n : Nat} {k : IntKind} {v : Value} {d : DataW H} {p : List MemPlace} (ht : P.underlying t = some (.array n e)) (he : P.underlying e = some (.int k)) (hce : P.cellsOf e = 1) (hct : P.cellsOf t = n)
    (hv : Value.okWide P w r b0 t v) (h : DataW.Trod enc P w base spare held t v d p) :
    ∃ zs : List Int, zs.length = n ∧ v = .agg (zs.map (Value.int k)).toArray ∧ d = .agg (zs.map fun z => .lit (.int k z)) ∧ p = [] ∧ ∀ z, z ∈ zs → (Lit.int k z).wf = true := by
  obtain ⟨cs, rfl, hsz⟩ := okWide_arr ht hv
  obtain ⟨fuel, hf⟩ := h
  obtain ⟨xs, m, rfl, hx, hlen, hxl, hel⟩ := DataW.trod_array ht hf
  simp only [Prod.mk.injEq] at hx
  have each : ∀ i, i < n → ∃ z, cs.toList[i]? = some (.int k z) ∧ xs[i]? = some (.lit (.int k z), []) ∧ (Lit.int k z).wf = true := by
    intro i hi
    have h1 := hel i hi
    have hi2 : i < xs.length := by omega
    rw [List.getElem?_eq_getElem hi2] at h1
    obtain ⟨z, hc, hz, hw⟩ := DataW.trod_int he h1
    refine ⟨z, ?_, ?_, hw⟩
    · have := congrArg (·[0]?) hc
      simpa [List.getElem?_take, List.getElem?_drop, hce, Value.cells] using this
    · rw [List.getElem?_eq_getElem hi2, hz]
  obtain ⟨g, hg⟩ : ∃ g : Nat → Int, ∀ i, i < n → cs.toList[i]? = some (.int k (g i)) ∧ xs[i]? = some (.lit (.int k (g i)), []) ∧ (Lit.int k (g i)).wf = true :=
    ⟨fun i => if hi : i < n then Classical.choose (each i hi) else 0, fun i hi => by simp only [hi, dif_pos]; exact Classical.choose_spec (each i hi)⟩
  have hcs : cs.toList = ((List.range n).map g).map (Value.int k) := by
    apply List.ext_getElem?
    intro i
    by_cases hi : i < n
    · rw [(hg i hi).1]; simp [hi]
    · rw [List.getElem?_eq_none (by simp; omega), List.getElem?_eq_none (by simp; omega)]
  have hxs : xs = ((List.range n).map g).map fun z => (DataW.lit (.int k z), []) := by
    apply List.ext_getElem?
    intro i
    by_cases hi : i < n
    · rw [(hg i hi).2.1]; simp [hi]
    · rw [List.getElem?_eq_none (by omega), List.getElem?_eq_none (by simp; omega)]
  refine ⟨(List.range n).map g, by simp, ?_, ?_, ?_, ?_⟩
  · rw [← hcs]
  · rw [hx.1, hxs]; simp
  · rw [hx.2, hxs]; simp
  · intro z hz
    obtain ⟨i, hi, rfl⟩ := List.mem_map.1 hz
    exact (hg i (by simpa using hi)).2.2
theorem open_arr2 {r : Reach} {b0 : Nat} {t e : TypeId} {k : IntKind} {v : Value} {d : DataW H} {p : List MemPlace} (ht : P.underlying t = some (.array 2 e)) (he : P.underlying e = some (.int k)) (hce : P.cellsOf e = 1) (hct : P.cellsOf t = 2)
    (hv : Value.okWide P w r b0 t v) (h : DataW.Trod enc P w base spare held t v d p) :
    ∃ x y : Int, v = .agg #[.int k x, .int k y] ∧ d = .agg [.lit (.int k x), .lit (.int k y)] ∧ p = [] ∧ (Lit.int k x).wf = true ∧ (Lit.int k y).wf = true := by
  obtain ⟨zs, hl, rfl, rfl, rfl, hw⟩ := open_ints_arr ht he hce hct hv h
  match zs, hl, hw with
  | [x, y], _, hw => exact ⟨x, y, rfl, rfl, rfl, hw x (by simp), hw y (by simp)⟩
theorem open_arr3 {r : Reach} {b0 : Nat} {t e : TypeId} {k : IntKind} {v : Value} {d : DataW H} {p : List MemPlace} (ht : P.underlying t = some (.array 3 e)) (he : P.underlying e = some (.int k)) (hce : P.cellsOf e = 1) (hct : P.cellsOf t = 3)
    (hv : Value.okWide P w r b0 t v) (h : DataW.Trod enc P w base spare held t v d p) :
    ∃ x y z : Int, v = .agg #[.int k x, .int k y, .int k z] ∧ d = .agg [.lit (.int k x), .lit (.int k y), .lit (.int k z)] ∧ p = [] ∧ (Lit.int k x).wf = true ∧ (Lit.int k y).wf = true ∧ (Lit.int k z).wf = true := by
  obtain ⟨zs, hl, rfl, rfl, rfl, hw⟩ := open_ints_arr ht he hce hct hv h
  match zs, hl, hw with
  | [x, y, z], _, hw => exact ⟨x, y, z, rfl, rfl, rfl, hw x (by simp), hw y (by simp), hw z (by simp)⟩
theorem shut_arr2 {t e : TypeId} {k : IntKind} {x y : Int} (ht : P.underlying t = some (.array 2 e)) (he : P.underlying e = some (.int k)) (hce : P.cellsOf e = 1) (hct : P.cellsOf t = 2) (hx : (Lit.int k x).wf = true) (hy : (Lit.int k y).wf = true) :
    DataW.Trod enc P w base spare held t (.agg #[.int k x, .int k y]) (.agg [.lit (.int k x), .lit (.int k y)]) [] :=
  ⟨2, by
    have r2 : List.range 2 = [0, 1] := rfl
    simp [DataW.trod, Value.cells, ht, he, hce, hct, hx, hy, r2]⟩
theorem shut_arr3 {t e : TypeId} {k : IntKind} {x y z : Int} (ht : P.underlying t = some (.array 3 e)) (he : P.underlying e = some (.int k)) (hce : P.cellsOf e = 1) (hct : P.cellsOf t = 3) (hx : (Lit.int k x).wf = true) (hy : (Lit.int k y).wf = true) (hz : (Lit.int k z).wf = true) :
    DataW.Trod enc P w base spare held t (.agg #[.int k x, .int k y, .int k z]) (.agg [.lit (.int k x), .lit (.int k y), .lit (.int k z)]) [] :=
  ⟨2, by
    have r3 : List.range 3 = [0, 1, 2] := rfl
    simp [DataW.trod, Value.cells, ht, he, hce, hct, hx, hy, hz, r3]⟩
end
end Go.Proofs.YtbnnobeahliffaaGreatDoor
