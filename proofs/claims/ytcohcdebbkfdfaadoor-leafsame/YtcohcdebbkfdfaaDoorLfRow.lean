/- Rows of classes in memory. Nothing of the program but its types' numbers. -/
import Derived.Test.YtcohcdebbkfdfaaDoorLfMath
import Derived.CellFam
namespace Go.Proofs.YtcohcdebbkfdfaaDoor
open Go.RowKit
namespace Cls

/-- n classes from offset o of block b on. -/
def Cl (w : World) (b o n : Nat) (P : Nat → Nat → Bool) : Prop := ∀ t, t < n → ∀ k, k < 4 → w.cell? ⟨b, o + t * 4 + k, none⟩ = some (.int .u64 ((wd (P t) k : Nat) : Int))

theorem Cl.below {B : Nat} {w w' : World} {b o n : Nat} {P : Nat → Nat → Bool} (h : Cl w b o n P) (hb : Below B w w') (hB : b < B) : Cl w' b o n P := fun t ht k hk => (hb.cell (p := ⟨b, o + t * 4 + k, none⟩) hB).trans (h t ht k hk)

theorem Cl.lt {w : World} {b o n : Nat} {P : Nat → Nat → Bool} (h : Cl w b o n P) (hn : 0 < n) : b < w.heap.size := World.block_lt_of_cell? w _ (h 0 hn 0 (by omega))

theorem Cl.four {w : World} {b o n : Nat} {P : Nat → Nat → Bool} (h : Cl w b o n P) {t : Nat} (ht : t < n) : w.cell? ⟨b, o + t * 4, none⟩ = some (.int .u64 ((wd (P t) 0 : Nat) : Int)) ∧ w.cell? ⟨b, o + t * 4 + 1, none⟩ = some (.int .u64 ((wd (P t) 1 : Nat) : Int)) ∧ w.cell? ⟨b, o + t * 4 + 2, none⟩ = some (.int .u64 ((wd (P t) 2 : Nat) : Int)) ∧ w.cell? ⟨b, o + t * 4 + 3, none⟩ = some (.int .u64 ((wd (P t) 3 : Nat) : Int)) :=
  ⟨h t ht 0 (by omega), h t ht 1 (by omega), h t ht 2 (by omega), h t ht 3 (by omega)⟩

/-- A slice of n classes. -/
structure Lf (w : World) (ao : Option Addr) (n : Nat) (P : Nat → Nat → Bool) : Prop where
  small : n ≤ 4398046511104
  lies : 1 ≤ n → ∃ b o, ao = some ⟨b, o, none⟩ ∧ b < w.heap.size ∧ Cl w b o n P

theorem Lf.grow {w w' : World} {ao : Option Addr} {n : Nat} {P : Nat → Nat → Bool} (h : Lf w ao n P) (hb : Below w.heap.size w w') : Lf w' ao n P :=
  ⟨h.small, fun hn => by
    obtain ⟨b, o, e, hlt, hc⟩ := h.lies hn
    exact ⟨b, o, e, Nat.lt_of_lt_of_le hlt hb.size, hc.below hb hlt⟩⟩

theorem Lf.drewN {w : World} {ao : Option Addr} {n : Nat} {P : Nat → Nat → Bool} (h : Lf w ao n P) (q : Nat) : Lf (w.drewN q) ao n P := ⟨h.small, h.lies⟩

/-- A leaf (or whatever has two cells) in a box of its own. -/
structure LBox (w v : World) (x y : Value) : Prop where
  eq : v = w.alloc (.cells #[x, y] 24)
  bel : Below w.heap.size w v
  c0 : v.cell? ⟨w.heap.size, 0, none⟩ = some x
  c1 : v.cell? ⟨w.heap.size, 1, none⟩ = some y
  size : v.heap.size = w.heap.size + 1

theorem lbox (w : World) (x y : Value) : ∃ v, LBox w v x y := by
  have hb : (w.alloc (.cells #[x, y] 24)).heap[w.heap.size]? = some (.cells #[x, y] 24) := by show (w.heap.push _)[w.heap.size]? = _; simp
  refine ⟨_, rfl, (Below.refl _ _).alloc (Nat.le_refl _) _, ?_, ?_, by show (w.heap.push _).size = _; simp⟩
  · unfold World.cell?; rw [hb]; rfl
  · unfold World.cell?; rw [hb]; rfl

/-- Two cells stay. -/
theorem two_below {B : Nat} {w w' : World} {b : Nat} {x y : Value} (h : w.cell? ⟨b, 0, none⟩ = some x ∧ w.cell? ⟨b, 1, none⟩ = some y) (hb : Below B w w') (hB : b < B) : w'.cell? ⟨b, 0, none⟩ = some x ∧ w'.cell? ⟨b, 1, none⟩ = some y :=
  ⟨(hb.cell (p := ⟨b, 0, none⟩) hB).trans h.1, (hb.cell (p := ⟨b, 1, none⟩) hB).trans h.2⟩

end Cls
end Go.Proofs.YtcohcdebbkfdfaaDoor
