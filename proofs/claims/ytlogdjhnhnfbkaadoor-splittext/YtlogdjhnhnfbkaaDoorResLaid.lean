/- From the row's condition (the table of primes reads as it was laid) to the cells that the walks read; a start that meets it. -/
import Derived.Test.YtlogdjhnhnfbkaaDoorRows
import Derived.Test.YtlogdjhnhnfbkaaDoorTie
import Derived.Test.YtlogdjhnhnfbkaaDoorCards
import Derived.Test.YtlogdjhnhnfbkaaDoorResWalks
import Derived.ProofKit
import Derived.LaidMore
import Derived.OpenShut
import Derived.Lib.LaidTab
import Derived.Stop.Joined
namespace Go.Proofs.YtlogdjhnhnfbkaaDoor
open Go.ChangeShapes Go.WideShapes Go.ChangeAt Go.RowKit

theorem own : ownKnob Tryd.prog.godebug = none := by kernel_rfl
theorem gPrimes : Tryd.prog.globalNamed "beagle/residue.primes" = some 1 := by kernel_rfl
theorem tPrimes : (Tryd.prog.globals[1]?).map (·.type) = some 131 := by kernel_rfl
theorem cellsU : Tryd.prog.cellsOf 49 = 1 := by kernel_rfl
theorem cellsT : Tryd.prog.cellsOf 131 = 3 := by kernel_rfl
/-- What the row lists. -/
def laid1 : List (String × DataW Unit) := [("beagle/residue.primes", Rows.laid_beagle_residue_primes)]
theorem tab_of_laid {W : World} (h : laidMetH Tryd.prog laid1 W) : Tab W := by
  rw [MakeChecks.laidMetH_plain _ _ _ (by kernel_rfl)] at h
  have hT := Lib.tabIs_of_head (k := .u64) (zs := [998244353, 167772161, 469762049]) (rest := []) gPrimes tPrimes Tryd.underlying131 Tryd.underlying49 cellsU cellsT h
  exact ⟨hT.cell gPrimes 0 (by decide), hT.cell gPrimes 1 (by decide), hT.cell gPrimes 2 (by decide)⟩
theorem door_met (os : Os) (args : Array Value) : laidMetH Tryd.prog laid1 ((World.doorLaid Tryd.prog 400 os).forCall (fun _ _ => 0) ⟨#[], args, []⟩).memory :=
  laidMetH_of_parts3 (fuel := 8) (laidMet_of_run' 8 (by kernel_rfl) (by kernel_rfl)) (by kernel_rfl) (by kernel_rfl)
end Go.Proofs.YtlogdjhnhnfbkaaDoor
