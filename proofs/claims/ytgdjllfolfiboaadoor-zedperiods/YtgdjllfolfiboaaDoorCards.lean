/-
  DERIVED. GIVEN WITH THE SEED: THE CARDS: each row of YtgdjllfolfiboaaDoorRows.lean that lists a variable, with what it lists TIED to the program's text (the seventh form; the later family's looks); each row that meets fmt, with fmt's text TOLD by the authors' own Lean function (tested against real Go, not proved from fmt's source: count such statements apart). THE CARD IS WHAT COUNTS. Prove the row's statement (the work); the ties are given (YtgdjllfolfiboaaDoorTie.lean); close each card by the builder's one call (the guide's Derived/Test/ToyasCard.lean, 'card_holds'). Laid BY PROGRAM, IN A SANDBOX (cutbox-door.mjs). By AI agents, Wed Nov 11 2026. No macro, syntax, notation, axiom, sorry.
-/
import Derived.Test.YtgdjllfolfiboaaDoorRows
import GoSem.ClaimSeven
namespace Go.Proofs.YtgdjllfolfiboaaDoor
namespace Rows

/-- THE TIED CARD OF 'beaglelaw09.ZedRows'. -/
def zedRowsCard : Claim7 := { stood := { row := zedRowsRow, standIns := [], harness := (true, "44f170b221560e9d3e0571a1bb8b82fced5236da818e15e2f079373a84690a51"), looks := false }, kinds := [], alts := [], laidByText := true, laidKinds := [.data], laidTests := true, laidLooks := .later }
def ZedRowsCardSaid : Prop := Claim7.holds Tryd.pinned (.plain (OpenSpec.ofChange zedRowsSpec)) zedRowsCard

/-- THE TIED CARD OF 'beaglelaw09.ZedFinds'. -/
def zedFindsCard : Claim7 := { stood := { row := zedFindsRow, standIns := [], harness := (true, "44f170b221560e9d3e0571a1bb8b82fced5236da818e15e2f079373a84690a51"), looks := false }, kinds := [], alts := [], laidByText := true, laidKinds := [.data], laidTests := true, laidLooks := .later }
def ZedFindsCardSaid : Prop := Claim7.holds Tryd.pinned (.plain (OpenSpec.ofChange zedFindsSpec)) zedFindsCard

/-- THE TIED CARD OF 'beaglelaw09.ZedLeaves'. -/
def zedLeavesCard : Claim7 := { stood := { row := zedLeavesRow, standIns := [], harness := (true, "44f170b221560e9d3e0571a1bb8b82fced5236da818e15e2f079373a84690a51"), looks := false }, kinds := [], alts := [], laidByText := true, laidKinds := [.data], laidTests := true, laidLooks := .later }
def ZedLeavesCardSaid : Prop := Claim7.holds Tryd.pinned (.plain (OpenSpec.ofChange zedLeavesSpec)) zedLeavesCard

/-- THE TIED CARD OF 'beaglelaw09.ZedPeriods'. -/
def zedPeriodsCard : Claim7 := { stood := { row := zedPeriodsRow, standIns := [], harness := (true, "44f170b221560e9d3e0571a1bb8b82fced5236da818e15e2f079373a84690a51"), looks := false }, kinds := [], alts := [], laidByText := true, laidKinds := [.data], laidTests := true, laidLooks := .later }
def ZedPeriodsCardSaid : Prop := Claim7.holds Tryd.pinned (.plain (OpenSpec.ofChange zedPeriodsSpec)) zedPeriodsCard

/-- THE TIED CARD OF 'beaglelaw09.ZedWhole'. -/
def zedWholeCard : Claim7 := { stood := { row := zedWholeRow, standIns := [], harness := (true, "44f170b221560e9d3e0571a1bb8b82fced5236da818e15e2f079373a84690a51"), looks := false }, kinds := [], alts := [], laidByText := true, laidKinds := [.data], laidTests := true, laidLooks := .later }
def ZedWholeCardSaid : Prop := Claim7.holds Tryd.pinned (.plain (OpenSpec.ofChange zedWholeSpec)) zedWholeCard

/-- THE TIED CARD OF 'beaglelaw09.ZedGreatest'. -/
def zedGreatestCard : Claim7 := { stood := { row := zedGreatestRow, standIns := [], harness := (true, "44f170b221560e9d3e0571a1bb8b82fced5236da818e15e2f079373a84690a51"), looks := false }, kinds := [], alts := [], laidByText := true, laidKinds := [.data], laidTests := true, laidLooks := .later }
def ZedGreatestCardSaid : Prop := Claim7.holds Tryd.pinned (.plain (OpenSpec.ofChange zedGreatestSpec)) zedGreatestCard

/-- THE SECOND FORM's CARD OF 'beaglelaw09.ZedRows'. -/
def zedRowsUptoCard : Claim7 := { stood := { row := zedRowsUptoRow, standIns := [], harness := (true, "44f170b221560e9d3e0571a1bb8b82fced5236da818e15e2f079373a84690a51"), looks := false }, kinds := [], alts := [], laidByText := true, laidKinds := [.data], laidTests := true, laidLooks := .later }
def ZedRowsUptoCardSaid : Prop := Claim7.holds Tryd.pinned (.plain (OpenSpec.upto zedRowsSpec)) zedRowsUptoCard

/-- THE SECOND FORM's CARD OF 'beaglelaw09.ZedFinds'. -/
def zedFindsUptoCard : Claim7 := { stood := { row := zedFindsUptoRow, standIns := [], harness := (true, "44f170b221560e9d3e0571a1bb8b82fced5236da818e15e2f079373a84690a51"), looks := false }, kinds := [], alts := [], laidByText := true, laidKinds := [.data], laidTests := true, laidLooks := .later }
def ZedFindsUptoCardSaid : Prop := Claim7.holds Tryd.pinned (.plain (OpenSpec.upto zedFindsSpec)) zedFindsUptoCard

/-- THE SECOND FORM's CARD OF 'beaglelaw09.ZedLeaves'. -/
def zedLeavesUptoCard : Claim7 := { stood := { row := zedLeavesUptoRow, standIns := [], harness := (true, "44f170b221560e9d3e0571a1bb8b82fced5236da818e15e2f079373a84690a51"), looks := false }, kinds := [], alts := [], laidByText := true, laidKinds := [.data], laidTests := true, laidLooks := .later }
def ZedLeavesUptoCardSaid : Prop := Claim7.holds Tryd.pinned (.plain (OpenSpec.upto zedLeavesSpec)) zedLeavesUptoCard

/-- THE SECOND FORM's CARD OF 'beaglelaw09.ZedPeriods'. -/
def zedPeriodsUptoCard : Claim7 := { stood := { row := zedPeriodsUptoRow, standIns := [], harness := (true, "44f170b221560e9d3e0571a1bb8b82fced5236da818e15e2f079373a84690a51"), looks := false }, kinds := [], alts := [], laidByText := true, laidKinds := [.data], laidTests := true, laidLooks := .later }
def ZedPeriodsUptoCardSaid : Prop := Claim7.holds Tryd.pinned (.plain (OpenSpec.upto zedPeriodsSpec)) zedPeriodsUptoCard

/-- THE SECOND FORM's CARD OF 'beaglelaw09.ZedWhole'. -/
def zedWholeUptoCard : Claim7 := { stood := { row := zedWholeUptoRow, standIns := [], harness := (true, "44f170b221560e9d3e0571a1bb8b82fced5236da818e15e2f079373a84690a51"), looks := false }, kinds := [], alts := [], laidByText := true, laidKinds := [.data], laidTests := true, laidLooks := .later }
def ZedWholeUptoCardSaid : Prop := Claim7.holds Tryd.pinned (.plain (OpenSpec.upto zedWholeSpec)) zedWholeUptoCard

/-- THE SECOND FORM's CARD OF 'beaglelaw09.ZedGreatest'. -/
def zedGreatestUptoCard : Claim7 := { stood := { row := zedGreatestUptoRow, standIns := [], harness := (true, "44f170b221560e9d3e0571a1bb8b82fced5236da818e15e2f079373a84690a51"), looks := false }, kinds := [], alts := [], laidByText := true, laidKinds := [.data], laidTests := true, laidLooks := .later }
def ZedGreatestUptoCardSaid : Prop := Claim7.holds Tryd.pinned (.plain (OpenSpec.upto zedGreatestSpec)) zedGreatestUptoCard
end Rows
end Go.Proofs.YtgdjllfolfiboaaDoor
