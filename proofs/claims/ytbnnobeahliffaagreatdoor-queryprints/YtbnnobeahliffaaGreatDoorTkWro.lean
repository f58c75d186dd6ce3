/- Boxes that were not written stay. -/
import Derived.Test.YtbnnobeahliffaaGreatDoorTkRd2
set_option linter.unusedVariables false
namespace Go.Proofs.YtbnnobeahliffaaGreatDoor
open Go.RowKit
namespace Cls

theorem set4v_wrote (v : World) (g : Nat) (x0 x1 x2 x3 : Value) : Wrote (fun b _ => b = g) v (set4v v g x0 x1 x2 x3) :=
  (((Wrote.refl (fun b _ => b = g) v).setCell rfl _).setCell rfl _).setCell rfl _ |>.setCell rfl _

theorem K4.wrote {v v' : World} {S : Nat → Nat → Prop} {b : Nat} {v0 v1 v2 v3 : Value} (h : K4 v b v0 v1 v2 v3) (hw : Wrote S v v') (hS : ∀ t, ¬ S b t) : K4 v' b v0 v1 v2 v3 :=
  ⟨(hw.cell b 0 (hS 0)).trans h.c0, (hw.cell b 1 (hS 1)).trans h.c1, (hw.cell b 2 (hS 2)).trans h.c2, (hw.cell b 3 (hS 3)).trans h.c3⟩

theorem Kb.wrote {w v v' : World} {S : Nat → Nat → Prop} {b : Nat} (h : Kb w v b) (hw : Wrote S v v') (hS : ∀ t, ¬ S b t) (hb : Below w.heap.size w v') : Kb w v' b := by
  obtain ⟨v0, v1, v2, v3, hc⟩ := h.c
  exact ⟨hb, h.low, by rw [hw.size]; exact h.hi, ⟨_, _, _, _, hc.wrote hw hS⟩, fun t => by rw [hw.frozen]; exact h.f t⟩

theorem knd_le7 (b : Nat) : knd b ≤ 7 := by
  unfold knd
  repeat' split
  all_goals omega

end Cls
end Go.Proofs.YtbnnobeahliffaaGreatDoor
