/- What is told of places, how many transforms, the error. -/
import Derived.Test.YtlogdjhnhnfbkaaDoorNvA
namespace Go.Proofs.YtlogdjhnhnfbkaaDoor
open Go.RowKit
namespace Cls

/-- What is told of places: L, how many transforms, the error. -/
def Told5 (w : World) (L : List Nat) (q c : Int) (e : Ending) (w' : World) : Prop :=
  (∃ bo d, e = .returned (.tuple #[.slice bo L.length d, .int .i64 q, .int .i64 c]) ∧ Is w' bo L) ∧ Below w.heap.size w w'

theorem told5_nil {w w' : World} {q c : Int} (h : Below w.heap.size w w') : Told5 w [] q c (.returned (.tuple #[.slice none 0 0, .int .i64 q, .int .i64 c])) w' := ⟨⟨none, 0, rfl, fun h => absurd h (by simp)⟩, h⟩

theorem Told5.from {w w1 w' : World} {L : List Nat} {q c : Int} {e : Ending} (h : Told5 w1 L q c e w') (hb : Below w.heap.size w w1) : Told5 w L q c e w' := ⟨h.1, hb.trans (h.2.mono hb.size)⟩

end Cls
end Go.Proofs.YtlogdjhnhnfbkaaDoor
