/- From the row's condition (the library's three tables read as they were laid) to the cells that the walks read; a start that meets it. -/
import Derived.Test.YtbnnobeahliffaaGreatDoorClsLaid
import Derived.Test.YtbnnobeahliffaaGreatDoorTkPr1
import Derived.Stop.LaidErr
namespace Go.Proofs.YtbnnobeahliffaaGreatDoor
open Go.ChangeShapes Go.WideShapes Go.ChangeAt Go.RowKit
namespace Tri

/-- What the row lists. -/
def laid3 : List (String × DataW Unit) := [("math/bits.deBruijn32tab", Rows.laid_math_bits_deBruijn32tab), ("math/bits.deBruijn64tab", Rows.laid_math_bits_deBruijn64tab), ("internal/strconv.uint64pow10", Rows.laid_internal_strconv_uint64pow10)]

theorem gX : Tryz.prog.globalNamed "internal/strconv.uint64pow10" = some 1 := by kernel_rfl

theorem tX : (Tryz.prog.globals[1]?).map (·.type) = some 152 := by kernel_rfl

theorem cellsX : Tryz.prog.cellsOf 65 = 1 := by kernel_rfl

theorem cellsXT : Tryz.prog.cellsOf 152 = 20 := by kernel_rfl

theorem tabs_of_laid {W : World} (h : laidMetH Tryz.prog laid3 W) : Cls.TabB W ∧ Cls.TabX W := by
  rw [MakeChecks.laidMetH_plain _ _ _ (by kernel_rfl)] at h
  have h2 := Lib.tabIs_of_head (k := .u8) (zs := Lib.deBruijn64tab.map fun n : Nat => (n : Int)) Cls.gTab Cls.tTab Tryz.underlying158 Tryz.underlying5 Cls.cellsB Cls.cellsT (laidMet.tail h)
  have h3 := Lib.tabIs_of_head (k := .u64) (zs := Lib.pow10Tab) (rest := []) gX tX Tryz.underlying152 Tryz.underlying65 cellsX cellsXT (laidMet.tail (laidMet.tail h))
  refine ⟨?_, h3⟩
  intro j hj
  have hl : (Lib.deBruijn64tab.map fun n : Nat => (n : Int)).length = 64 := by decide
  have hl2 : Lib.deBruijn64tab.length = 64 := by decide
  rw [h2.cell Cls.gTab j (by omega)]
  simp [List.getD, hl2, hj]

theorem door_met (os : Os) (args : Array Value) : laidMetH Tryz.prog laid3 ((World.doorLaid Tryz.prog 400 os).forCall (fun _ _ => 0) ⟨#[], args, []⟩).memory :=
  laidMetH_of_parts3 (fuel := 8) (laidMet_of_run' 8 (by kernel_rfl) (by kernel_rfl)) (by kernel_rfl) (by kernel_rfl)

end Tri
end Go.Proofs.YtbnnobeahliffaaGreatDoor
