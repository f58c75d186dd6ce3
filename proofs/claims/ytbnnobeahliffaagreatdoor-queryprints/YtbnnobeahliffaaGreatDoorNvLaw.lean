/- What stands on the way of the laws of layer 8: a leaf in a box, its row; rows that were told. -/
import Derived.Test.YtbnnobeahliffaaGreatDoorNvAl
import Derived.Test.YtbnnobeahliffaaGreatDoorLfOpen
import Derived.Deep.RegionHeld3
namespace Go.Proofs.YtbnnobeahliffaaGreatDoor
open Go.RowKit
namespace Cls

/-- A leaf in a box, on the way. -/
structure Lv (w wk : World) (g : Nat) (ao : Option Addr) (n cap : Nat) (P : Nat → Nat → Bool) (K : Int) : Prop where
  bel : Below w.heap.size w wk
  c : wk.cell? ⟨g, 0, none⟩ = some (.slice ao n cap) ∧ wk.cell? ⟨g, 1, none⟩ = some (.int .i64 K)
  l : Lf wk ao n P

theorem Lv.grow {w wk w' : World} {g : Nat} {ao : Option Addr} {n cap : Nat} {P : Nat → Nat → Bool} {K : Int} (h : Lv w wk g ao n cap P K) (b : Below wk.heap.size wk w') : Lv w w' g ao n cap P K :=
  ⟨h.bel.trans (b.mono h.bel.size), two_below h.c b (World.block_lt_of_cell? wk _ h.c.1), h.l.grow b⟩

theorem Lv.drewN {w wk : World} {g : Nat} {ao : Option Addr} {n cap : Nat} {P : Nat → Nat → Bool} {K : Int} (h : Lv w wk g ao n cap P K) (q : Nat) : Lv w (wk.drewN q) g ao n cap P K :=
  ⟨below_drewN h.bel q, h.c, h.l.drewN q⟩

end Cls
end Go.Proofs.YtbnnobeahliffaaGreatDoor
