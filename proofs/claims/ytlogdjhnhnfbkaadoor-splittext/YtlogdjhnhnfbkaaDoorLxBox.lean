/- A leaf in a box, and both tables; a new row of one class. -/
import Derived.Test.YtlogdjhnhnfbkaaDoorMem
import Derived.Test.YtlogdjhnhnfbkaaDoorLfAl
import Derived.Test.YtlogdjhnhnfbkaaDoorLfA
import Derived.Test.YtlogdjhnhnfbkaaDoorClsA
namespace Go.Proofs.YtlogdjhnhnfbkaaDoor
open Go.RowKit Res
namespace Cls

theorem tab_grow {w w' : World} (h : Tab w) (hb : Below w.heap.size w w') : Tab w' := h.below hb (tab_lt h)

/-- A leaf in a box, and both tables. -/
structure Lx (w wk : World) (g : Nat) (ao : Option Addr) (n cap : Nat) (P : Nat → Nat → Bool) (K : Int) : Prop where
  bel : Below w.heap.size w wk
  c : wk.cell? ⟨g, 0, none⟩ = some (.slice ao n cap) ∧ wk.cell? ⟨g, 1, none⟩ = some (.int .i64 K)
  l : Lf wk ao n P
  ta : Tab wk
  tb : TabB wk

theorem Lx.grow {w wk w' : World} {g : Nat} {ao : Option Addr} {n cap : Nat} {P : Nat → Nat → Bool} {K : Int} (h : Lx w wk g ao n cap P K) (b : Below wk.heap.size wk w') : Lx w w' g ao n cap P K :=
  ⟨h.bel.trans (b.mono h.bel.size), two_below h.c b (World.block_lt_of_cell? wk _ h.c.1), h.l.grow b, tab_grow h.ta b, h.tb.grow b⟩

theorem Lx.drewN {w wk : World} {g : Nat} {ao : Option Addr} {n cap : Nat} {P : Nat → Nat → Bool} {K : Int} (h : Lx w wk g ao n cap P K) (q : Nat) : Lx w (wk.drewN q) g ao n cap P K :=
  ⟨below_drewN h.bel q, h.c, h.l.drewN q, h.ta, h.tb⟩

theorem lf4 (v : World) (f : Nat → Bool) : Lf (v.alloc (.cells #[.int .u64 ((wd (f) 0 : Nat) : Int), .int .u64 ((wd (f) 1 : Nat) : Int), .int .u64 ((wd (f) 2 : Nat) : Int), .int .u64 ((wd (f) 3 : Nat) : Int)] 51)) (some ⟨v.heap.size, 0, none⟩) 1 (fun _ => f) :=
  ⟨by omega, fun _ => ⟨v.heap.size, 0, rfl, by rw [al_size]; omega, fun t ht k hk => by
    obtain rfl : t = 0 := by omega
    rw [Nat.zero_mul, Nat.zero_add]
    obtain ⟨v', bx⟩ := box v f
    have hf := bx.fam k hk
    rw [bx.eq, Nat.zero_add] at hf
    exact hf⟩⟩

end Cls
end Go.Proofs.YtlogdjhnhnfbkaaDoor
