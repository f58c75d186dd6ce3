/- From the row's condition (both tables read as they were laid) to the cells that the walks read; a start that meets it. -/
import Derived.Test.YtlogdjhnhnfbkaaDoorResLaid
import Derived.Test.YtlogdjhnhnfbkaaDoorClsLaid
import Derived.Stop.LaidErr
namespace Go.Proofs.YtlogdjhnhnfbkaaDoor
open Go.ChangeShapes Go.WideShapes Go.ChangeAt Go.RowKit
namespace Two

/-- What the row lists. -/
def laid2 : List (String × DataW Unit) := [("beagle/residue.primes", Rows.laid_beagle_residue_primes), ("math/bits.deBruijn64tab", Rows.laid_math_bits_deBruijn64tab)]

theorem tabs_of_laid {W : World} (h : laidMetH Tryd.prog laid2 W) : Tab W ∧ Cls.TabB W := by
  rw [MakeChecks.laidMetH_plain _ _ _ (by kernel_rfl)] at h
  have h1 := Lib.tabIs_of_head (k := .u64) (zs := [998244353, 167772161, 469762049]) gPrimes tPrimes Tryd.underlying131 Tryd.underlying49 cellsU cellsT h
  have h2 := Lib.tabIs_of_head (k := .u8) (zs := Lib.deBruijn64tab.map fun n : Nat => (n : Int)) (rest := []) Cls.gTab Cls.tTab Tryd.underlying123 Tryd.underlying5 Cls.cellsB Cls.cellsT (laidMet.tail h)
  refine ⟨⟨h1.cell gPrimes 0 (by decide), h1.cell gPrimes 1 (by decide), h1.cell gPrimes 2 (by decide)⟩, ?_⟩
  intro j hj
  have hl : (Lib.deBruijn64tab.map fun n : Nat => (n : Int)).length = 64 := by decide
  have hl2 : Lib.deBruijn64tab.length = 64 := by decide
  rw [h2.cell Cls.gTab j (by omega)]
  simp [List.getD, hl2, hj]

theorem door_met (os : Os) (args : Array Value) : laidMetH Tryd.prog laid2 ((World.doorLaid Tryd.prog 400 os).forCall (fun _ _ => 0) ⟨#[], args, []⟩).memory :=
  laidMetH_of_parts3 (fuel := 8) (laidMet_of_run' 8 (by kernel_rfl) (by kernel_rfl)) (by kernel_rfl) (by kernel_rfl)

end Two
end Go.Proofs.YtlogdjhnhnfbkaaDoor
