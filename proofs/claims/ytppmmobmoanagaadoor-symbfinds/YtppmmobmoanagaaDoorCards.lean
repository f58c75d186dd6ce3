/-
  DERIVED. GIVEN WITH THE SEED: THE CARDS: each row of YtppmmobmoanagaaDoorRows.lean that lists a variable, with what it lists TIED to the program's text (the seventh form; the later family's looks); each row that meets fmt, with fmt's text TOLD by the authors' own Lean function (tested against real Go, not proved from fmt's source: count such statements apart). THE CARD IS WHAT COUNTS. Prove the row's statement (the work); the ties are given (YtppmmobmoanagaaDoorTie.lean); close each card by the builder's one call (the guide's Derived/Test/ToyasCard.lean, 'card_holds'). Laid BY PROGRAM, IN A SANDBOX (cutbox-door.mjs). By AI agents, Wed Nov 11 2026. No macro, syntax, notation, axiom, sorry.
-/
import Derived.Test.YtppmmobmoanagaaDoorRows
import GoSem.ClaimSeven
namespace Go.Proofs.YtppmmobmoanagaaDoor
namespace Rows

/-- THE TIED CARD OF 'beaglelaw11.SymbMarks'. -/
def symbMarksCard : Claim7 := { stood := { row := symbMarksRow, standIns := [], harness := (true, "35dd448ee960d7dc711eaff57e7268ef183b3bcce916bd88acf3a036333c1417"), looks := false }, kinds := [], alts := [], laidByText := true, laidKinds := [.data], laidTests := true, laidLooks := .later }
def SymbMarksCardSaid : Prop := Claim7.holds Tryd.pinned (.plain (OpenSpec.ofChange symbMarksSpec)) symbMarksCard

/-- THE TIED CARD OF 'beaglelaw11.SymbCounts'. -/
def symbCountsCard : Claim7 := { stood := { row := symbCountsRow, standIns := [], harness := (true, "35dd448ee960d7dc711eaff57e7268ef183b3bcce916bd88acf3a036333c1417"), looks := false }, kinds := [], alts := [], laidByText := true, laidKinds := [.data], laidTests := true, laidLooks := .later }
def SymbCountsCardSaid : Prop := Claim7.holds Tryd.pinned (.plain (OpenSpec.ofChange symbCountsSpec)) symbCountsCard

/-- THE TIED CARD OF 'beaglelaw11.SymbFinds'. -/
def symbFindsCard : Claim7 := { stood := { row := symbFindsRow, standIns := [], harness := (true, "35dd448ee960d7dc711eaff57e7268ef183b3bcce916bd88acf3a036333c1417"), looks := false }, kinds := [], alts := [], laidByText := true, laidKinds := [.data], laidTests := true, laidLooks := .later }
def SymbFindsCardSaid : Prop := Claim7.holds Tryd.pinned (.plain (OpenSpec.ofChange symbFindsSpec)) symbFindsCard

/-- THE TIED CARD OF 'beaglelaw11.SymbKinds'. -/
def symbKindsCard : Claim7 := { stood := { row := symbKindsRow, standIns := [], harness := (true, "35dd448ee960d7dc711eaff57e7268ef183b3bcce916bd88acf3a036333c1417"), looks := false }, kinds := [], alts := [], laidByText := true, laidKinds := [.data], laidTests := true, laidLooks := .later }
def SymbKindsCardSaid : Prop := Claim7.holds Tryd.pinned (.plain (OpenSpec.ofChange symbKindsSpec)) symbKindsCard

/-- THE TIED CARD OF 'beaglelaw11.SymbSizes'. -/
def symbSizesCard : Claim7 := { stood := { row := symbSizesRow, standIns := [], harness := (true, "35dd448ee960d7dc711eaff57e7268ef183b3bcce916bd88acf3a036333c1417"), looks := false }, kinds := [], alts := [], laidByText := true, laidKinds := [.data], laidTests := true, laidLooks := .later }
def SymbSizesCardSaid : Prop := Claim7.holds Tryd.pinned (.plain (OpenSpec.ofChange symbSizesSpec)) symbSizesCard

/-- THE TIED CARD OF 'beaglelaw11.SymbTurned'. -/
def symbTurnedCard : Claim7 := { stood := { row := symbTurnedRow, standIns := [], harness := (true, "35dd448ee960d7dc711eaff57e7268ef183b3bcce916bd88acf3a036333c1417"), looks := false }, kinds := [], alts := [], laidByText := true, laidKinds := [.data], laidTests := true, laidLooks := .later }
def SymbTurnedCardSaid : Prop := Claim7.holds Tryd.pinned (.plain (OpenSpec.ofChange symbTurnedSpec)) symbTurnedCard

/-- THE SECOND FORM's CARD OF 'beaglelaw11.SymbMarks'. -/
def symbMarksUptoCard : Claim7 := { stood := { row := symbMarksUptoRow, standIns := [], harness := (true, "35dd448ee960d7dc711eaff57e7268ef183b3bcce916bd88acf3a036333c1417"), looks := false }, kinds := [], alts := [], laidByText := true, laidKinds := [.data], laidTests := true, laidLooks := .later }
def SymbMarksUptoCardSaid : Prop := Claim7.holds Tryd.pinned (.plain (OpenSpec.upto symbMarksSpec)) symbMarksUptoCard

/-- THE SECOND FORM's CARD OF 'beaglelaw11.SymbCounts'. -/
def symbCountsUptoCard : Claim7 := { stood := { row := symbCountsUptoRow, standIns := [], harness := (true, "35dd448ee960d7dc711eaff57e7268ef183b3bcce916bd88acf3a036333c1417"), looks := false }, kinds := [], alts := [], laidByText := true, laidKinds := [.data], laidTests := true, laidLooks := .later }
def SymbCountsUptoCardSaid : Prop := Claim7.holds Tryd.pinned (.plain (OpenSpec.upto symbCountsSpec)) symbCountsUptoCard

/-- THE SECOND FORM's CARD OF 'beaglelaw11.SymbFinds'. -/
def symbFindsUptoCard : Claim7 := { stood := { row := symbFindsUptoRow, standIns := [], harness := (true, "35dd448ee960d7dc711eaff57e7268ef183b3bcce916bd88acf3a036333c1417"), looks := false }, kinds := [], alts := [], laidByText := true, laidKinds := [.data], laidTests := true, laidLooks := .later }
def SymbFindsUptoCardSaid : Prop := Claim7.holds Tryd.pinned (.plain (OpenSpec.upto symbFindsSpec)) symbFindsUptoCard

/-- THE SECOND FORM's CARD OF 'beaglelaw11.SymbKinds'. -/
def symbKindsUptoCard : Claim7 := { stood := { row := symbKindsUptoRow, standIns := [], harness := (true, "35dd448ee960d7dc711eaff57e7268ef183b3bcce916bd88acf3a036333c1417"), looks := false }, kinds := [], alts := [], laidByText := true, laidKinds := [.data], laidTests := true, laidLooks := .later }
def SymbKindsUptoCardSaid : Prop := Claim7.holds Tryd.pinned (.plain (OpenSpec.upto symbKindsSpec)) symbKindsUptoCard

/-- THE SECOND FORM's CARD OF 'beaglelaw11.SymbSizes'. -/
def symbSizesUptoCard : Claim7 := { stood := { row := symbSizesUptoRow, standIns := [], harness := (true, "35dd448ee960d7dc711eaff57e7268ef183b3bcce916bd88acf3a036333c1417"), looks := false }, kinds := [], alts := [], laidByText := true, laidKinds := [.data], laidTests := true, laidLooks := .later }
def SymbSizesUptoCardSaid : Prop := Claim7.holds Tryd.pinned (.plain (OpenSpec.upto symbSizesSpec)) symbSizesUptoCard

/-- THE SECOND FORM's CARD OF 'beaglelaw11.SymbTurned'. -/
def symbTurnedUptoCard : Claim7 := { stood := { row := symbTurnedUptoRow, standIns := [], harness := (true, "35dd448ee960d7dc711eaff57e7268ef183b3bcce916bd88acf3a036333c1417"), looks := false }, kinds := [], alts := [], laidByText := true, laidKinds := [.data], laidTests := true, laidLooks := .later }
def SymbTurnedUptoCardSaid : Prop := Claim7.holds Tryd.pinned (.plain (OpenSpec.upto symbTurnedSpec)) symbTurnedUptoCard
end Rows
end Go.Proofs.YtppmmobmoanagaaDoor
