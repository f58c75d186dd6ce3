/-
  DERIVED. GIVEN WITH THE SEED: THE CARDS: each row of YtlogdjhnhnfbkaaDoorRows.lean that lists a variable, with what it lists TIED to the program's text (the seventh form; the later family's looks); each row that meets fmt, with fmt's text TOLD by the authors' own Lean function (tested against real Go, not proved from fmt's source: count such statements apart). THE CARD IS WHAT COUNTS. Prove the row's statement (the work); the ties are given (YtlogdjhnhnfbkaaDoorTie.lean); close each card by the builder's one call (the guide's Derived/Test/ToyasCard.lean, 'card_holds'). Laid BY PROGRAM, IN A SANDBOX (cutbox-door.mjs). By AI agents, Wed Nov 11 2026. No macro, syntax, notation, axiom, sorry.
-/
import Derived.Test.YtlogdjhnhnfbkaaDoorRows
import GoSem.ClaimSeven
namespace Go.Proofs.YtlogdjhnhnfbkaaDoor
namespace Rows

/-- THE TIED CARD OF 'beaglelaw12.SplitParts'. -/
def splitPartsCard : Claim7 := { stood := { row := splitPartsRow, standIns := [], harness := (true, "1ff92007c0e8254d2e8c548312464441811b6dba471936d6e84fcd89d54fa2ad"), looks := false }, kinds := [], alts := [], laidByText := true, laidKinds := [.data, .data], laidTests := true, laidLooks := .later }
def SplitPartsCardSaid : Prop := Claim7.holds Tryd.pinned (.plain (OpenSpec.ofChange splitPartsSpec)) splitPartsCard

/-- THE TIED CARD OF 'beaglelaw12.SplitRare'. -/
def splitRareCard : Claim7 := { stood := { row := splitRareRow, standIns := [], harness := (true, "1ff92007c0e8254d2e8c548312464441811b6dba471936d6e84fcd89d54fa2ad"), looks := false }, kinds := [], alts := [], laidByText := true, laidKinds := [.data, .data], laidTests := true, laidLooks := .later }
def SplitRareCardSaid : Prop := Claim7.holds Tryd.pinned (.plain (OpenSpec.ofChange splitRareSpec)) splitRareCard

/-- THE TIED CARD OF 'beaglelaw12.SplitCounts'. -/
def splitCountsCard : Claim7 := { stood := { row := splitCountsRow, standIns := [], harness := (true, "1ff92007c0e8254d2e8c548312464441811b6dba471936d6e84fcd89d54fa2ad"), looks := false }, kinds := [], alts := [], laidByText := true, laidKinds := [.data, .data], laidTests := true, laidLooks := .later }
def SplitCountsCardSaid : Prop := Claim7.holds Tryd.pinned (.plain (OpenSpec.ofChange splitCountsSpec)) splitCountsCard

/-- THE TIED CARD OF 'beaglelaw12.SplitLeast'. -/
def splitLeastCard : Claim7 := { stood := { row := splitLeastRow, standIns := [], harness := (true, "1ff92007c0e8254d2e8c548312464441811b6dba471936d6e84fcd89d54fa2ad"), looks := false }, kinds := [], alts := [], laidByText := true, laidKinds := [.data, .data], laidTests := true, laidLooks := .later }
def SplitLeastCardSaid : Prop := Claim7.holds Tryd.pinned (.plain (OpenSpec.ofChange splitLeastSpec)) splitLeastCard

/-- THE TIED CARD OF 'beaglelaw12.SplitText'. -/
def splitTextCard : Claim7 := { stood := { row := splitTextRow, standIns := [], harness := (true, "1ff92007c0e8254d2e8c548312464441811b6dba471936d6e84fcd89d54fa2ad"), looks := false }, kinds := [], alts := [], laidByText := true, laidKinds := [.data, .data], laidTests := true, laidLooks := .later }
def SplitTextCardSaid : Prop := Claim7.holds Tryd.pinned (.plain (OpenSpec.ofChange splitTextSpec)) splitTextCard

/-- THE SECOND FORM's CARD OF 'beaglelaw12.SplitParts'. -/
def splitPartsUptoCard : Claim7 := { stood := { row := splitPartsUptoRow, standIns := [], harness := (true, "1ff92007c0e8254d2e8c548312464441811b6dba471936d6e84fcd89d54fa2ad"), looks := false }, kinds := [], alts := [], laidByText := true, laidKinds := [.data, .data], laidTests := true, laidLooks := .later }
def SplitPartsUptoCardSaid : Prop := Claim7.holds Tryd.pinned (.plain (OpenSpec.upto splitPartsSpec)) splitPartsUptoCard

/-- THE SECOND FORM's CARD OF 'beaglelaw12.SplitRare'. -/
def splitRareUptoCard : Claim7 := { stood := { row := splitRareUptoRow, standIns := [], harness := (true, "1ff92007c0e8254d2e8c548312464441811b6dba471936d6e84fcd89d54fa2ad"), looks := false }, kinds := [], alts := [], laidByText := true, laidKinds := [.data, .data], laidTests := true, laidLooks := .later }
def SplitRareUptoCardSaid : Prop := Claim7.holds Tryd.pinned (.plain (OpenSpec.upto splitRareSpec)) splitRareUptoCard

/-- THE SECOND FORM's CARD OF 'beaglelaw12.SplitCounts'. -/
def splitCountsUptoCard : Claim7 := { stood := { row := splitCountsUptoRow, standIns := [], harness := (true, "1ff92007c0e8254d2e8c548312464441811b6dba471936d6e84fcd89d54fa2ad"), looks := false }, kinds := [], alts := [], laidByText := true, laidKinds := [.data, .data], laidTests := true, laidLooks := .later }
def SplitCountsUptoCardSaid : Prop := Claim7.holds Tryd.pinned (.plain (OpenSpec.upto splitCountsSpec)) splitCountsUptoCard

/-- THE SECOND FORM's CARD OF 'beaglelaw12.SplitLeast'. -/
def splitLeastUptoCard : Claim7 := { stood := { row := splitLeastUptoRow, standIns := [], harness := (true, "1ff92007c0e8254d2e8c548312464441811b6dba471936d6e84fcd89d54fa2ad"), looks := false }, kinds := [], alts := [], laidByText := true, laidKinds := [.data, .data], laidTests := true, laidLooks := .later }
def SplitLeastUptoCardSaid : Prop := Claim7.holds Tryd.pinned (.plain (OpenSpec.upto splitLeastSpec)) splitLeastUptoCard

/-- THE SECOND FORM's CARD OF 'beaglelaw12.SplitText'. -/
def splitTextUptoCard : Claim7 := { stood := { row := splitTextUptoRow, standIns := [], harness := (true, "1ff92007c0e8254d2e8c548312464441811b6dba471936d6e84fcd89d54fa2ad"), looks := false }, kinds := [], alts := [], laidByText := true, laidKinds := [.data, .data], laidTests := true, laidLooks := .later }
def SplitTextUptoCardSaid : Prop := Claim7.holds Tryd.pinned (.plain (OpenSpec.upto splitTextSpec)) splitTextUptoCard
end Rows
end Go.Proofs.YtlogdjhnhnfbkaaDoor
