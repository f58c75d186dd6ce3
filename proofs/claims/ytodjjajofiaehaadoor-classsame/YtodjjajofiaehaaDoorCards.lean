/-
  DERIVED. GIVEN WITH THE SEED: THE CARDS: each row of YtodjjajofiaehaaDoorRows.lean that lists a variable, with what it lists TIED to the program's text (the seventh form; the later family's looks); each row that meets fmt, with fmt's text TOLD by the authors' own Lean function (tested against real Go, not proved from fmt's source: count such statements apart). THE CARD IS WHAT COUNTS. Prove the row's statement (the work); the ties are given (YtodjjajofiaehaaDoorTie.lean); close each card by the builder's one call (the guide's Derived/Test/ToyasCard.lean, 'card_holds'). Laid BY PROGRAM, IN A SANDBOX (cutbox-door.mjs). By AI agents, Wed Nov 11 2026. No macro, syntax, notation, axiom, sorry.
-/
import Derived.Test.YtodjjajofiaehaaDoorRows
import GoSem.ClaimSeven
namespace Go.Proofs.YtodjjajofiaehaaDoor
namespace Rows

/-- THE TIED CARD OF 'beaglelaw06.ClassOf'. -/
def classOfCard : Claim7 := { stood := { row := classOfRow, standIns := [], harness := (true, "21861fc272050304f024244748d134cb78bef3ab49e5b8a09eb78c42cd0f5699"), looks := false }, kinds := [], alts := [], laidByText := true, laidKinds := [.data], laidTests := true, laidLooks := .later }
def ClassOfCardSaid : Prop := Claim7.holds Tryd.pinned (.plain (OpenSpec.ofChange classOfSpec)) classOfCard

/-- THE TIED CARD OF 'beaglelaw06.ClassSets'. -/
def classSetsCard : Claim7 := { stood := { row := classSetsRow, standIns := [], harness := (true, "21861fc272050304f024244748d134cb78bef3ab49e5b8a09eb78c42cd0f5699"), looks := false }, kinds := [], alts := [], laidByText := true, laidKinds := [.data], laidTests := true, laidLooks := .later }
def ClassSetsCardSaid : Prop := Claim7.holds Tryd.pinned (.plain (OpenSpec.ofChange classSetsSpec)) classSetsCard

/-- THE TIED CARD OF 'beaglelaw06.ClassAsks'. -/
def classAsksCard : Claim7 := { stood := { row := classAsksRow, standIns := [], harness := (true, "21861fc272050304f024244748d134cb78bef3ab49e5b8a09eb78c42cd0f5699"), looks := false }, kinds := [], alts := [], laidByText := true, laidKinds := [.data], laidTests := true, laidLooks := .later }
def ClassAsksCardSaid : Prop := Claim7.holds Tryd.pinned (.plain (OpenSpec.ofChange classAsksSpec)) classAsksCard

/-- THE TIED CARD OF 'beaglelaw06.ClassRuns'. -/
def classRunsCard : Claim7 := { stood := { row := classRunsRow, standIns := [], harness := (true, "21861fc272050304f024244748d134cb78bef3ab49e5b8a09eb78c42cd0f5699"), looks := false }, kinds := [], alts := [], laidByText := true, laidKinds := [.data], laidTests := true, laidLooks := .later }
def ClassRunsCardSaid : Prop := Claim7.holds Tryd.pinned (.plain (OpenSpec.ofChange classRunsSpec)) classRunsCard

/-- THE TIED CARD OF 'beaglelaw06.ClassSame'. -/
def classSameCard : Claim7 := { stood := { row := classSameRow, standIns := [], harness := (true, "21861fc272050304f024244748d134cb78bef3ab49e5b8a09eb78c42cd0f5699"), looks := false }, kinds := [], alts := [], laidByText := true, laidKinds := [.data], laidTests := true, laidLooks := .later }
def ClassSameCardSaid : Prop := Claim7.holds Tryd.pinned (.plain (OpenSpec.ofChange classSameSpec)) classSameCard

/-- THE TIED CARD OF 'beaglelaw06.ClassLaws'. -/
def classLawsCard : Claim7 := { stood := { row := classLawsRow, standIns := [], harness := (true, "21861fc272050304f024244748d134cb78bef3ab49e5b8a09eb78c42cd0f5699"), looks := false }, kinds := [], alts := [], laidByText := true, laidKinds := [.data], laidTests := true, laidLooks := .later }
def ClassLawsCardSaid : Prop := Claim7.holds Tryd.pinned (.plain (OpenSpec.ofChange classLawsSpec)) classLawsCard

/-- THE SECOND FORM's CARD OF 'beaglelaw06.ClassOf'. -/
def classOfUptoCard : Claim7 := { stood := { row := classOfUptoRow, standIns := [], harness := (true, "21861fc272050304f024244748d134cb78bef3ab49e5b8a09eb78c42cd0f5699"), looks := false }, kinds := [], alts := [], laidByText := true, laidKinds := [.data], laidTests := true, laidLooks := .later }
def ClassOfUptoCardSaid : Prop := Claim7.holds Tryd.pinned (.plain (OpenSpec.upto classOfSpec)) classOfUptoCard

/-- THE SECOND FORM's CARD OF 'beaglelaw06.ClassSets'. -/
def classSetsUptoCard : Claim7 := { stood := { row := classSetsUptoRow, standIns := [], harness := (true, "21861fc272050304f024244748d134cb78bef3ab49e5b8a09eb78c42cd0f5699"), looks := false }, kinds := [], alts := [], laidByText := true, laidKinds := [.data], laidTests := true, laidLooks := .later }
def ClassSetsUptoCardSaid : Prop := Claim7.holds Tryd.pinned (.plain (OpenSpec.upto classSetsSpec)) classSetsUptoCard

/-- THE SECOND FORM's CARD OF 'beaglelaw06.ClassAsks'. -/
def classAsksUptoCard : Claim7 := { stood := { row := classAsksUptoRow, standIns := [], harness := (true, "21861fc272050304f024244748d134cb78bef3ab49e5b8a09eb78c42cd0f5699"), looks := false }, kinds := [], alts := [], laidByText := true, laidKinds := [.data], laidTests := true, laidLooks := .later }
def ClassAsksUptoCardSaid : Prop := Claim7.holds Tryd.pinned (.plain (OpenSpec.upto classAsksSpec)) classAsksUptoCard

/-- THE SECOND FORM's CARD OF 'beaglelaw06.ClassRuns'. -/
def classRunsUptoCard : Claim7 := { stood := { row := classRunsUptoRow, standIns := [], harness := (true, "21861fc272050304f024244748d134cb78bef3ab49e5b8a09eb78c42cd0f5699"), looks := false }, kinds := [], alts := [], laidByText := true, laidKinds := [.data], laidTests := true, laidLooks := .later }
def ClassRunsUptoCardSaid : Prop := Claim7.holds Tryd.pinned (.plain (OpenSpec.upto classRunsSpec)) classRunsUptoCard

/-- THE SECOND FORM's CARD OF 'beaglelaw06.ClassSame'. -/
def classSameUptoCard : Claim7 := { stood := { row := classSameUptoRow, standIns := [], harness := (true, "21861fc272050304f024244748d134cb78bef3ab49e5b8a09eb78c42cd0f5699"), looks := false }, kinds := [], alts := [], laidByText := true, laidKinds := [.data], laidTests := true, laidLooks := .later }
def ClassSameUptoCardSaid : Prop := Claim7.holds Tryd.pinned (.plain (OpenSpec.upto classSameSpec)) classSameUptoCard

/-- THE SECOND FORM's CARD OF 'beaglelaw06.ClassLaws'. -/
def classLawsUptoCard : Claim7 := { stood := { row := classLawsUptoRow, standIns := [], harness := (true, "21861fc272050304f024244748d134cb78bef3ab49e5b8a09eb78c42cd0f5699"), looks := false }, kinds := [], alts := [], laidByText := true, laidKinds := [.data], laidTests := true, laidLooks := .later }
def ClassLawsUptoCardSaid : Prop := Claim7.holds Tryd.pinned (.plain (OpenSpec.upto classLawsSpec)) classLawsUptoCard
end Rows
end Go.Proofs.YtodjjajofiaehaaDoor
