/- What stands on the way of the laws of layer 8: a leaf in a box, its row; rows that were told. -/
import Derived.Test.YtlogdjhnhnfbkaaDoorNvAl
import Derived.Test.YtlogdjhnhnfbkaaDoorLfOpen
import Derived.Deep.RegionHeld3
namespace Go.Proofs.YtlogdjhnhnfbkaaDoor
open Go.RowKit
namespace Cls

/-- A leaf in a box, on the way. -/
structure Lv (w wk : World) (g : Nat) (ao : Option Addr) (n cap : Nat) (P : Nat → Nat → Bool) (K : Int) : Prop where
  bel : Below w.heap.size w wk
  c : wk.cell? ⟨g, 0, none⟩ = some (.slice ao n cap) ∧ wk.cell? ⟨g, 1, none⟩ = some (.int .i64 K)
  l : Lf wk ao n P

theorem Lv.grow {w wk w' : World} {g : Nat} {ao : Option Addr} {n cap : Nat} {P : Nat → Nat → Bool} {K : Int} (h : Lv w wk g ao n cap P K) (b : Below wk.heap.size wk w') : Lv w w' g ao n cap P K :=
  ⟨h.bel.trans (b.mono h.bel.size), two_below h.c b (World.block_lt_of_cell? wk _ h.c.1), h.l.grow b⟩

theorem Lv.drewN {w wk : World} {g : Nat} {ao : Option Addr} {n cap : Nat} {P : Nat → Nat → Bool} {K : Int} (h : Lv w wk g ao n cap P K) (q : Nat) : Lv w (wk.drewN q) g ao n cap P K :=
  ⟨below_drewN h.bel q, h.c, h.l.drewN q⟩

theorem places_same (L : List Nat) (m : Nat) (hm : L.length = m) (hl : m ≤ 4398046511104) (ao bo : Option Addr) (d c : Nat) (w : World) (ha : Is w ao L) (hb : Is w bo L) :
    Calls Tryd.prog 14 #[.slice ao m d, .slice bo m c] w fun e w' => e = .returned (.bool true) ∧ Below w.heap.size w w' := by
  subst hm
  have h := places_any L L d c ao bo w ha hb hl hl
  rw [eqi_same] at h
  exact h

end Cls
end Go.Proofs.YtlogdjhnhnfbkaaDoor
