/- A slice of uint64 as a parameter: what the walk is told of it. Nothing of the program but its table's rows. -/
import Derived.Test.YtlogdjhnhnfbkaaDoorNttRows
import Derived.ProofKit
import Derived.OpenShut
import Derived.SizedLaws
namespace Go.Proofs.YtlogdjhnhnfbkaaDoor
open Go.ChangeShapes Go.WideShapes Go.ChangeAt Go.RowKit

/-- A slice of n numbers that came in: L's; where there is one, it leads into a row of memory. -/
structure Sl (w : World) (ao : Option Addr) (n cap : Nat) (L : Nat → Int) : Prop where
  le : n ≤ cap
  room : cap * 8 ≤ 140737488351232
  lo : ∀ t, 0 ≤ L t
  hi : ∀ t, L t ≤ 18446744073709551615
  lies : 1 ≤ n → ∃ b o, ao = some ⟨b, o, none⟩ ∧ Fam w b o n L
  bare : ao = none → cap = 0
theorem add_plain (b o j : Nat) : (⟨b, o, none⟩ : Addr).add j = ⟨b, o + j, none⟩ := by unfold Addr.add; split <;> simp_all
theorem spot_none {w : World} {x : Addr} {v : Value} (h : w.cell? (x.add 0) = some v) : ∃ b o, x = ⟨b, o, none⟩ := by
  obtain ⟨b, o, s⟩ := x
  cases s with
  | none => exact ⟨b, o, rfl⟩
  | some s =>
    unfold World.cell? Addr.add at h
    simp at h
    split at h <;> simp at h
theorem open_sl {H : Type} {enc : TypeId × Value → H} {P : Program} {W : World} {base : Nat} {t e : TypeId} {v : Value} {d : DataW H} {p : List MemPlace} (ht : P.underlying t = some (.slice e)) (he : P.underlying e = some (.int .u64)) (hc : P.cellsOf e = 1) (hby : P.bytesOf e = 8)
    (hv : Value.okWide P W .any base t v) (h : DataW.Trod enc P W 0 (fun _ => true) true t v d p) (hsz : ∀ elems spare, d = .slice elems spare → (elems.length + spare.length) * P.bytesOf e ≤ reachBytes) :
    ∃ ao n cap L, v = .slice ao n cap ∧ Sl W ao n cap L := by
  obtain ⟨ao, n, cap, rfl⟩ := okWide_slice ht hv
  obtain ⟨fuel, hf⟩ := h
  rcases open_ints ht he hc hf with ⟨hcs, _⟩ | ⟨x, l, c, zs, hcs, _, hl, hm, hz, hx, hcell, hwz⟩
  · simp [Value.cells] at hcs
    obtain ⟨rfl, rfl, rfl⟩ := hcs
    exact ⟨none, 0, 0, fun _ => 0, rfl, by omega, by omega, fun _ => by omega, fun _ => by omega, fun h => by omega, fun _ => rfl⟩
  · simp [Value.cells] at hcs
    obtain ⟨rfl, rfl, rfl⟩ := hcs
    have hz' : zs.length = cap := by simpa using hz
    simp only [Prod.mk.injEq] at hx
    have hb := hsz _ _ hx.1
    rw [hby] at hb
    simp only [lits, List.length_map, List.length_take, List.length_drop, reachBytes] at hb
    have bd : ∀ t, 0 ≤ zs.getD t 0 ∧ zs.getD t 0 ≤ 18446744073709551615 := by
      intro t
      by_cases hlt : t < zs.length
      · have hw := hwz (zs[t]) (List.getElem_mem hlt)
        rw [List.getD_eq_getElem?_getD, List.getElem?_eq_getElem hlt]
        exact bounds_u64 hw
      · rw [List.getD_eq_getElem?_getD, List.getElem?_eq_none (by omega)]
        exact ⟨by simp, by simp⟩
    refine ⟨some x, n, cap, fun t => zs.getD t 0, rfl, hl, by omega, fun t => (bd t).1, fun t => (bd t).2, fun hn => ?_, fun e => by cases e⟩
    obtain ⟨b, o, rfl⟩ := spot_none (hcell 0 (by omega))
    refine ⟨b, o, rfl, fun i hi => ?_⟩
    have := hcell i (by omega)
    rwa [add_plain] at this
end Go.Proofs.YtlogdjhnhnfbkaaDoor
