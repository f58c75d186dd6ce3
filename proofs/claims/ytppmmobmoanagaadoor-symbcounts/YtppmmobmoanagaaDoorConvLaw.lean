/- What the laws of layer 4 share: few, Same of slices, what a parameter tells. -/
import Derived.Test.YtppmmobmoanagaaDoorConvAlive
import Derived.Test.YtppmmobmoanagaaDoorConvA
import Derived.Test.YtppmmobmoanagaaDoorSlices
namespace Go.Proofs.YtppmmobmoanagaaDoor
open Go.RowKit Res

theorem same_lies (N : Nat) (hle : N ≤ 1152921504606846976) (ao bo : Option Addr) (ca cb : Nat) (G H : Nat → Int) (hGH : ∀ t, t < N → G t = H t) (w : World) (ha : Lies w ao N G) (hb : Lies w bo N H) :
    Calls Tryd.prog 11 #[.slice ao N ca, .slice bo N cb] w fun e w' => e = .returned (.bool true) ∧ ∃ q, w' = w.drewN q := by
  by_cases h : 1 ≤ N
  · obtain ⟨b1, o1, rfl, f1⟩ := ha h
    obtain ⟨b2, o2, rfl, f2⟩ := hb h
    exact same_fam N hle b1 o1 ca b2 o2 cb G H hGH w f1 f2
  · obtain rfl : N = 0 := by omega
    exact same_nil ao bo ca cb w
theorem Sl.row {w : World} {ao : Option Addr} {n cap : Nat} {L : Nat → Int} (h : Sl w ao n cap L) : Lies w ao n L := h.lies
theorem Sl.few {w : World} {ao : Option Addr} {n cap : Nat} {L : Nat → Int} (h : Sl w ao n cap L) : n ≤ 17592186043904 := by have := h.le; have := h.room; omega
theorem own_lies {w : World} {B i : Nat} {v : Value} {F : Nat → Int} (h : Own w B v i F) : ∃ ao c, v = .slice ao i c ∧ Lies w ao i F := by
  by_cases h1 : 1 ≤ i
  · obtain ⟨g, cap, e, _, _, hf, _⟩ := own_fam h h1
    exact ⟨_, _, e, fun _ => ⟨g, 0, rfl, hf⟩⟩
  · obtain ⟨ao, c, e⟩ := own_slice h
    exact ⟨ao, c, e, fun h' => absurd h' h1⟩
theorem grown_of_drew {w w' : World} {r : Option Nat} (h : w.drew.grownBy w' r) : w.grownBy w' r := ⟨h.os, h.tape, h.output, h.size, h.block⟩
/-- Of a sum, where all three are. -/
theorem sums_fact (n m : Nat) (A B C D : Nat → Int) (hA0 : ∀ t, 0 ≤ A t) (hB0 : ∀ t, 0 ≤ B t) (hC0 : ∀ t, 0 ≤ C t) (hD0 : ∀ t, 0 ≤ D t) (hD : ∀ t, t < m → D t = B t + C t) (e1 : ec n m A B = 0) (e2 : ec n m A C = 0) (e3 : ec n m A D = 0) :
    ∃ N, ln n m A B = N ∧ ln n m A C = N ∧ ln n m A D = N ∧ ∀ t, t < N → cv n m A D t = cv n m A B t + cv n m A C t ∧ cv n m A B t + cv n m A C t ≤ 18446744073709551615 ∧ 0 ≤ cv n m A B t ∧ 0 ≤ cv n m A C t := by
  by_cases h : n = 0 ∨ m = 0
  · exact ⟨0, ln_none h, ln_none h, ln_none h, fun t ht => by omega⟩
  · rw [ec_some h] at e1 e2 e3
    refine ⟨n + m - 1, ln_ok h e1, ln_ok h e2, ln_ok h e3, fun t _ => ?_⟩
    have k1 : cv n m A D t = cv n m A B t + cv n m A C t := by
      rw [← cv_add]
      exact cv_congr (fun _ _ => rfl) (fun j hj => hD j hj) t
    refine ⟨k1, ?_, cv_nonneg hA0 hB0 t, cv_nonneg hA0 hC0 t⟩
    rw [← k1]
    exact cv_fits hA0 hD0 e3 t
end Go.Proofs.YtppmmobmoanagaaDoor
