/-
  DERIVED. GIVEN WITH THE SEED: THE CARDS: each row of YtlogdjhnhnfbkaaGreatDoorRows.lean that lists a variable, with what it lists TIED to the program's text (the seventh form; the later family's looks); each row that meets fmt, with fmt's text TOLD by the authors' own Lean function (tested against real Go, not proved from fmt's source: count such statements apart). THE CARD IS WHAT COUNTS. Prove the row's statement (the work); the ties are given (YtlogdjhnhnfbkaaGreatDoorTie.lean); close each card by the builder's one call (the guide's Derived/Test/ToyasCard.lean, 'card_holds'). Laid BY PROGRAM, IN A SANDBOX (cutbox-door.mjs). By AI agents, Wed Nov 11 2026. No macro, syntax, notation, axiom, sorry.
-/
import Derived.Test.YtlogdjhnhnfbkaaGreatDoorRows
import GoSem.ClaimSeven
namespace Go.Proofs.YtlogdjhnhnfbkaaGreatDoor
namespace Rows

/-- THE TIED CARD OF 'beaglelaw12.SplitFinds'. -/
def splitFindsCard : Claim7 := { stood := { row := splitFindsRow, standIns := [], harness := (true, "7f9b9bc94e7ca3cfe77621803aadec74dff7245d100b566b6d2cc267655945b3"), looks := false }, kinds := [], alts := [], laidByText := true, laidKinds := [.data, .data], laidTests := true, laidLooks := .later }
def SplitFindsCardSaid : Prop := Claim7.holds Tryz.pinned (.plain (OpenSpec.ofChange splitFindsSpec)) splitFindsCard

/-- THE SECOND FORM's CARD OF 'beaglelaw12.SplitFinds'. -/
def splitFindsUptoCard : Claim7 := { stood := { row := splitFindsUptoRow, standIns := [], harness := (true, "7f9b9bc94e7ca3cfe77621803aadec74dff7245d100b566b6d2cc267655945b3"), looks := false }, kinds := [], alts := [], laidByText := true, laidKinds := [.data, .data], laidTests := true, laidLooks := .later }
def SplitFindsUptoCardSaid : Prop := Claim7.holds Tryz.pinned (.plain (OpenSpec.upto splitFindsSpec)) splitFindsUptoCard
end Rows
end Go.Proofs.YtlogdjhnhnfbkaaGreatDoor
