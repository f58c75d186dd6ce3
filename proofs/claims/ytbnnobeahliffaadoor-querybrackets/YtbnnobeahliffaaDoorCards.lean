/-
  DERIVED. GIVEN WITH THE SEED: THE CARDS: each row of YtbnnobeahliffaaDoorRows.lean that lists a variable, with what it lists TIED to the program's text (the seventh form; the later family's looks); each row that meets fmt, with fmt's text TOLD by the authors' own Lean function (tested against real Go, not proved from fmt's source: count such statements apart). THE CARD IS WHAT COUNTS. Prove the row's statement (the work); the ties are given (YtbnnobeahliffaaDoorTie.lean); close each card by the builder's one call (the guide's Derived/Test/ToyasCard.lean, 'card_holds'). Laid BY PROGRAM, IN A SANDBOX (cutbox-door.mjs). By AI agents, Wed Nov 11 2026. No macro, syntax, notation, axiom, sorry.
-/
import Derived.Test.YtbnnobeahliffaaDoorRows
import GoSem.ClaimSeven
namespace Go.Proofs.YtbnnobeahliffaaDoor
namespace Rows

/-- THE TIED CARD OF 'beaglelaw14.QueryRight'. -/
def queryRightCard : Claim7 := { stood := { row := queryRightRow, standIns := [], harness := (true, "1e84ee15056bd0118967ae18fcc2c6cfde0813a249a9ee0d8953d591d7b641c1"), looks := false }, kinds := [], alts := [], laidByText := true, laidKinds := [.data, .data, .data], laidTests := true, laidLooks := .later }
def QueryRightCardSaid : Prop := Claim7.holds Tryd.pinned (.plain (OpenSpec.ofChange queryRightSpec)) queryRightCard

/-- THE TIED CARD OF 'beaglelaw14.QueryLeaves'. -/
def queryLeavesCard : Claim7 := { stood := { row := queryLeavesRow, standIns := [], harness := (true, "1e84ee15056bd0118967ae18fcc2c6cfde0813a249a9ee0d8953d591d7b641c1"), looks := false }, kinds := [], alts := [], laidByText := true, laidKinds := [.data, .data, .data], laidTests := true, laidLooks := .later }
def QueryLeavesCardSaid : Prop := Claim7.holds Tryd.pinned (.plain (OpenSpec.ofChange queryLeavesSpec)) queryLeavesCard

/-- THE TIED CARD OF 'beaglelaw14.QueryAgain'. -/
def queryAgainCard : Claim7 := { stood := { row := queryAgainRow, standIns := [], harness := (true, "1e84ee15056bd0118967ae18fcc2c6cfde0813a249a9ee0d8953d591d7b641c1"), looks := false }, kinds := [], alts := [], laidByText := true, laidKinds := [.data, .data, .data], laidTests := true, laidLooks := .later }
def QueryAgainCardSaid : Prop := Claim7.holds Tryd.pinned (.plain (OpenSpec.ofChange queryAgainSpec)) queryAgainCard

/-- THE TIED CARD OF 'beaglelaw14.QueryBrackets'. -/
def queryBracketsCard : Claim7 := { stood := { row := queryBracketsRow, standIns := [], harness := (true, "1e84ee15056bd0118967ae18fcc2c6cfde0813a249a9ee0d8953d591d7b641c1"), looks := false }, kinds := [], alts := [], laidByText := true, laidKinds := [.data, .data, .data], laidTests := true, laidLooks := .later }
def QueryBracketsCardSaid : Prop := Claim7.holds Tryd.pinned (.plain (OpenSpec.ofChange queryBracketsSpec)) queryBracketsCard

/-- THE TIED CARD OF 'beaglelaw14.QueryJoins'. -/
def queryJoinsCard : Claim7 := { stood := { row := queryJoinsRow, standIns := [], harness := (true, "1e84ee15056bd0118967ae18fcc2c6cfde0813a249a9ee0d8953d591d7b641c1"), looks := false }, kinds := [], alts := [], laidByText := true, laidKinds := [.data, .data, .data], laidTests := true, laidLooks := .later }
def QueryJoinsCardSaid : Prop := Claim7.holds Tryd.pinned (.plain (OpenSpec.ofChange queryJoinsSpec)) queryJoinsCard

/-- THE SECOND FORM's CARD OF 'beaglelaw14.QueryRight'. -/
def queryRightUptoCard : Claim7 := { stood := { row := queryRightUptoRow, standIns := [], harness := (true, "1e84ee15056bd0118967ae18fcc2c6cfde0813a249a9ee0d8953d591d7b641c1"), looks := false }, kinds := [], alts := [], laidByText := true, laidKinds := [.data, .data, .data], laidTests := true, laidLooks := .later }
def QueryRightUptoCardSaid : Prop := Claim7.holds Tryd.pinned (.plain (OpenSpec.upto queryRightSpec)) queryRightUptoCard

/-- THE SECOND FORM's CARD OF 'beaglelaw14.QueryLeaves'. -/
def queryLeavesUptoCard : Claim7 := { stood := { row := queryLeavesUptoRow, standIns := [], harness := (true, "1e84ee15056bd0118967ae18fcc2c6cfde0813a249a9ee0d8953d591d7b641c1"), looks := false }, kinds := [], alts := [], laidByText := true, laidKinds := [.data, .data, .data], laidTests := true, laidLooks := .later }
def QueryLeavesUptoCardSaid : Prop := Claim7.holds Tryd.pinned (.plain (OpenSpec.upto queryLeavesSpec)) queryLeavesUptoCard

/-- THE SECOND FORM's CARD OF 'beaglelaw14.QueryAgain'. -/
def queryAgainUptoCard : Claim7 := { stood := { row := queryAgainUptoRow, standIns := [], harness := (true, "1e84ee15056bd0118967ae18fcc2c6cfde0813a249a9ee0d8953d591d7b641c1"), looks := false }, kinds := [], alts := [], laidByText := true, laidKinds := [.data, .data, .data], laidTests := true, laidLooks := .later }
def QueryAgainUptoCardSaid : Prop := Claim7.holds Tryd.pinned (.plain (OpenSpec.upto queryAgainSpec)) queryAgainUptoCard

/-- THE SECOND FORM's CARD OF 'beaglelaw14.QueryBrackets'. -/
def queryBracketsUptoCard : Claim7 := { stood := { row := queryBracketsUptoRow, standIns := [], harness := (true, "1e84ee15056bd0118967ae18fcc2c6cfde0813a249a9ee0d8953d591d7b641c1"), looks := false }, kinds := [], alts := [], laidByText := true, laidKinds := [.data, .data, .data], laidTests := true, laidLooks := .later }
def QueryBracketsUptoCardSaid : Prop := Claim7.holds Tryd.pinned (.plain (OpenSpec.upto queryBracketsSpec)) queryBracketsUptoCard

/-- THE SECOND FORM's CARD OF 'beaglelaw14.QueryJoins'. -/
def queryJoinsUptoCard : Claim7 := { stood := { row := queryJoinsUptoRow, standIns := [], harness := (true, "1e84ee15056bd0118967ae18fcc2c6cfde0813a249a9ee0d8953d591d7b641c1"), looks := false }, kinds := [], alts := [], laidByText := true, laidKinds := [.data, .data, .data], laidTests := true, laidLooks := .later }
def QueryJoinsUptoCardSaid : Prop := Claim7.holds Tryd.pinned (.plain (OpenSpec.upto queryJoinsSpec)) queryJoinsUptoCard
end Rows
end Go.Proofs.YtbnnobeahliffaaDoor
