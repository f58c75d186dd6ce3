/-
  DERIVED. GIVEN WITH THE SEED: THE CARDS: each row of YtegbkicbmdkpiaaDoorRows.lean that lists a variable, with what it lists TIED to the program's text (the seventh form; the later family's looks); each row that meets fmt, with fmt's text TOLD by the authors' own Lean function (tested against real Go, not proved from fmt's source: count such statements apart). THE CARD IS WHAT COUNTS. Prove the row's statement (the work); the ties are given (YtegbkicbmdkpiaaDoorTie.lean); close each card by the builder's one call (the guide's Derived/Test/ToyasCard.lean, 'card_holds'). Laid BY PROGRAM, IN A SANDBOX (cutbox-door.mjs). By AI agents, Wed Nov 11 2026. No macro, syntax, notation, axiom, sorry.
-/
import Derived.Test.YtegbkicbmdkpiaaDoorRows
import GoSem.ClaimSeven
namespace Go.Proofs.YtegbkicbmdkpiaaDoor
namespace Rows

/-- THE TIED CARD OF 'beaglelaw02.NttLogs'. -/
def nttLogsCard : Claim7 := { stood := { row := nttLogsRow, standIns := [], harness := (true, "f17c92f4377f77091d12f3c925737fef315104c28c77192a3316b7457a0092f7"), looks := false }, kinds := [], alts := [], laidByText := true, laidKinds := [.data], laidTests := true, laidLooks := .later }
def NttLogsCardSaid : Prop := Claim7.holds Tryd.pinned (.plain (OpenSpec.ofChange nttLogsSpec)) nttLogsCard

/-- THE TIED CARD OF 'beaglelaw02.NttForward'. -/
def nttForwardCard : Claim7 := { stood := { row := nttForwardRow, standIns := [], harness := (true, "f17c92f4377f77091d12f3c925737fef315104c28c77192a3316b7457a0092f7"), looks := false }, kinds := [], alts := [], laidByText := true, laidKinds := [.data], laidTests := true, laidLooks := .later }
def NttForwardCardSaid : Prop := Claim7.holds Tryd.pinned (.plain (OpenSpec.ofChange nttForwardSpec)) nttForwardCard

/-- THE TIED CARD OF 'beaglelaw02.NttInverse'. -/
def nttInverseCard : Claim7 := { stood := { row := nttInverseRow, standIns := [], harness := (true, "f17c92f4377f77091d12f3c925737fef315104c28c77192a3316b7457a0092f7"), looks := false }, kinds := [], alts := [], laidByText := true, laidKinds := [.data], laidTests := true, laidLooks := .later }
def NttInverseCardSaid : Prop := Claim7.holds Tryd.pinned (.plain (OpenSpec.ofChange nttInverseSpec)) nttInverseCard

/-- THE TIED CARD OF 'beaglelaw02.NttBack'. -/
def nttBackCard : Claim7 := { stood := { row := nttBackRow, standIns := [], harness := (true, "f17c92f4377f77091d12f3c925737fef315104c28c77192a3316b7457a0092f7"), looks := false }, kinds := [], alts := [], laidByText := true, laidKinds := [.data], laidTests := true, laidLooks := .later }
def NttBackCardSaid : Prop := Claim7.holds Tryd.pinned (.plain (OpenSpec.ofChange nttBackSpec)) nttBackCard

/-- THE TIED CARD OF 'beaglelaw02.NttCyclic'. -/
def nttCyclicCard : Claim7 := { stood := { row := nttCyclicRow, standIns := [], harness := (true, "f17c92f4377f77091d12f3c925737fef315104c28c77192a3316b7457a0092f7"), looks := false }, kinds := [], alts := [], laidByText := true, laidKinds := [.data], laidTests := true, laidLooks := .later }
def NttCyclicCardSaid : Prop := Claim7.holds Tryd.pinned (.plain (OpenSpec.ofChange nttCyclicSpec)) nttCyclicCard

/-- THE TIED CARD OF 'beaglelaw02.NttSums'. -/
def nttSumsCard : Claim7 := { stood := { row := nttSumsRow, standIns := [], harness := (true, "f17c92f4377f77091d12f3c925737fef315104c28c77192a3316b7457a0092f7"), looks := false }, kinds := [], alts := [], laidByText := true, laidKinds := [.data], laidTests := true, laidLooks := .later }
def NttSumsCardSaid : Prop := Claim7.holds Tryd.pinned (.plain (OpenSpec.ofChange nttSumsSpec)) nttSumsCard

/-- THE TIED CARD OF 'beaglelaw02.NttShifts'. -/
def nttShiftsCard : Claim7 := { stood := { row := nttShiftsRow, standIns := [], harness := (true, "f17c92f4377f77091d12f3c925737fef315104c28c77192a3316b7457a0092f7"), looks := false }, kinds := [], alts := [], laidByText := true, laidKinds := [.data], laidTests := true, laidLooks := .later }
def NttShiftsCardSaid : Prop := Claim7.holds Tryd.pinned (.plain (OpenSpec.ofChange nttShiftsSpec)) nttShiftsCard

/-- THE SECOND FORM's CARD OF 'beaglelaw02.NttLogs'. -/
def nttLogsUptoCard : Claim7 := { stood := { row := nttLogsUptoRow, standIns := [], harness := (true, "f17c92f4377f77091d12f3c925737fef315104c28c77192a3316b7457a0092f7"), looks := false }, kinds := [], alts := [], laidByText := true, laidKinds := [.data], laidTests := true, laidLooks := .later }
def NttLogsUptoCardSaid : Prop := Claim7.holds Tryd.pinned (.plain (OpenSpec.upto nttLogsSpec)) nttLogsUptoCard

/-- THE SECOND FORM's CARD OF 'beaglelaw02.NttForward'. -/
def nttForwardUptoCard : Claim7 := { stood := { row := nttForwardUptoRow, standIns := [], harness := (true, "f17c92f4377f77091d12f3c925737fef315104c28c77192a3316b7457a0092f7"), looks := false }, kinds := [], alts := [], laidByText := true, laidKinds := [.data], laidTests := true, laidLooks := .later }
def NttForwardUptoCardSaid : Prop := Claim7.holds Tryd.pinned (.plain (OpenSpec.upto nttForwardSpec)) nttForwardUptoCard

/-- THE SECOND FORM's CARD OF 'beaglelaw02.NttInverse'. -/
def nttInverseUptoCard : Claim7 := { stood := { row := nttInverseUptoRow, standIns := [], harness := (true, "f17c92f4377f77091d12f3c925737fef315104c28c77192a3316b7457a0092f7"), looks := false }, kinds := [], alts := [], laidByText := true, laidKinds := [.data], laidTests := true, laidLooks := .later }
def NttInverseUptoCardSaid : Prop := Claim7.holds Tryd.pinned (.plain (OpenSpec.upto nttInverseSpec)) nttInverseUptoCard

/-- THE SECOND FORM's CARD OF 'beaglelaw02.NttBack'. -/
def nttBackUptoCard : Claim7 := { stood := { row := nttBackUptoRow, standIns := [], harness := (true, "f17c92f4377f77091d12f3c925737fef315104c28c77192a3316b7457a0092f7"), looks := false }, kinds := [], alts := [], laidByText := true, laidKinds := [.data], laidTests := true, laidLooks := .later }
def NttBackUptoCardSaid : Prop := Claim7.holds Tryd.pinned (.plain (OpenSpec.upto nttBackSpec)) nttBackUptoCard

/-- THE SECOND FORM's CARD OF 'beaglelaw02.NttCyclic'. -/
def nttCyclicUptoCard : Claim7 := { stood := { row := nttCyclicUptoRow, standIns := [], harness := (true, "f17c92f4377f77091d12f3c925737fef315104c28c77192a3316b7457a0092f7"), looks := false }, kinds := [], alts := [], laidByText := true, laidKinds := [.data], laidTests := true, laidLooks := .later }
def NttCyclicUptoCardSaid : Prop := Claim7.holds Tryd.pinned (.plain (OpenSpec.upto nttCyclicSpec)) nttCyclicUptoCard

/-- THE SECOND FORM's CARD OF 'beaglelaw02.NttSums'. -/
def nttSumsUptoCard : Claim7 := { stood := { row := nttSumsUptoRow, standIns := [], harness := (true, "f17c92f4377f77091d12f3c925737fef315104c28c77192a3316b7457a0092f7"), looks := false }, kinds := [], alts := [], laidByText := true, laidKinds := [.data], laidTests := true, laidLooks := .later }
def NttSumsUptoCardSaid : Prop := Claim7.holds Tryd.pinned (.plain (OpenSpec.upto nttSumsSpec)) nttSumsUptoCard

/-- THE SECOND FORM's CARD OF 'beaglelaw02.NttShifts'. -/
def nttShiftsUptoCard : Claim7 := { stood := { row := nttShiftsUptoRow, standIns := [], harness := (true, "f17c92f4377f77091d12f3c925737fef315104c28c77192a3316b7457a0092f7"), looks := false }, kinds := [], alts := [], laidByText := true, laidKinds := [.data], laidTests := true, laidLooks := .later }
def NttShiftsUptoCardSaid : Prop := Claim7.holds Tryd.pinned (.plain (OpenSpec.upto nttShiftsSpec)) nttShiftsUptoCard
end Rows
end Go.Proofs.YtegbkicbmdkpiaaDoor
