/-
  DERIVED. GIVEN WITH THE SEED: THE CARDS: each row of YtljahelbbafhlaaDoorRows.lean that lists a variable, with what it lists TIED to the program's text (the seventh form; the later family's looks); each row that meets fmt, with fmt's text TOLD by the authors' own Lean function (tested against real Go, not proved from fmt's source: count such statements apart). THE CARD IS WHAT COUNTS. Prove the row's statement (the work); the ties are given (YtljahelbbafhlaaDoorTie.lean); close each card by the builder's one call (the guide's Derived/Test/ToyasCard.lean, 'card_holds'). Laid BY PROGRAM, IN A SANDBOX (cutbox-door.mjs). By AI agents, Wed Nov 11 2026. No macro, syntax, notation, axiom, sorry.
-/
import Derived.Test.YtljahelbbafhlaaDoorRows
import GoSem.ClaimSeven
namespace Go.Proofs.YtljahelbbafhlaaDoor
namespace Rows

/-- THE TIED CARD OF 'beaglelaw13.TokenLexes'. -/
def tokenLexesCard : Claim7 := { stood := { row := tokenLexesRow, standIns := [], harness := (true, "d0e834f62540a39b05deba5e9c2cc828a53347255790e34683f5396cbcba7b29"), looks := false }, kinds := [], alts := [], laidByText := true, laidKinds := [.data, .data, .data], laidTests := true, laidLooks := .later }
def TokenLexesCardSaid : Prop := Claim7.holds Tryd.pinned (.plain (OpenSpec.ofChange tokenLexesSpec)) tokenLexesCard

/-- THE TIED CARD OF 'beaglelaw13.TokenElements'. -/
def tokenElementsCard : Claim7 := { stood := { row := tokenElementsRow, standIns := [], harness := (true, "d0e834f62540a39b05deba5e9c2cc828a53347255790e34683f5396cbcba7b29"), looks := false }, kinds := [], alts := [], laidByText := true, laidKinds := [.data, .data, .data], laidTests := true, laidLooks := .later }
def TokenElementsCardSaid : Prop := Claim7.holds Tryd.pinned (.plain (OpenSpec.ofChange tokenElementsSpec)) tokenElementsCard

/-- THE TIED CARD OF 'beaglelaw13.TokenPrints'. -/
def tokenPrintsCard : Claim7 := { stood := { row := tokenPrintsRow, standIns := [], harness := (true, "d0e834f62540a39b05deba5e9c2cc828a53347255790e34683f5396cbcba7b29"), looks := false }, kinds := [], alts := [], laidByText := true, laidKinds := [.data, .data, .data], laidTests := true, laidLooks := .later }
def TokenPrintsCardSaid : Prop := Claim7.holds Tryd.pinned (.plain (OpenSpec.ofChange tokenPrintsSpec)) tokenPrintsCard

/-- THE TIED CARD OF 'beaglelaw13.TokenRows'. -/
def tokenRowsCard : Claim7 := { stood := { row := tokenRowsRow, standIns := [], harness := (true, "d0e834f62540a39b05deba5e9c2cc828a53347255790e34683f5396cbcba7b29"), looks := false }, kinds := [], alts := [], laidByText := true, laidKinds := [.data, .data, .data], laidTests := true, laidLooks := .later }
def TokenRowsCardSaid : Prop := Claim7.holds Tryd.pinned (.plain (OpenSpec.ofChange tokenRowsSpec)) tokenRowsCard

/-- THE TIED CARD OF 'beaglelaw13.TokenAgain'. -/
def tokenAgainCard : Claim7 := { stood := { row := tokenAgainRow, standIns := [], harness := (true, "d0e834f62540a39b05deba5e9c2cc828a53347255790e34683f5396cbcba7b29"), looks := false }, kinds := [], alts := [], laidByText := true, laidKinds := [.data, .data, .data], laidTests := true, laidLooks := .later }
def TokenAgainCardSaid : Prop := Claim7.holds Tryd.pinned (.plain (OpenSpec.ofChange tokenAgainSpec)) tokenAgainCard

/-- THE TIED CARD OF 'beaglelaw13.TokenHead'. -/
def tokenHeadCard : Claim7 := { stood := { row := tokenHeadRow, standIns := [], harness := (true, "d0e834f62540a39b05deba5e9c2cc828a53347255790e34683f5396cbcba7b29"), looks := false }, kinds := [], alts := [], laidByText := true, laidKinds := [.data, .data, .data], laidTests := true, laidLooks := .later }
def TokenHeadCardSaid : Prop := Claim7.holds Tryd.pinned (.plain (OpenSpec.ofChange tokenHeadSpec)) tokenHeadCard

/-- THE SECOND FORM's CARD OF 'beaglelaw13.TokenLexes'. -/
def tokenLexesUptoCard : Claim7 := { stood := { row := tokenLexesUptoRow, standIns := [], harness := (true, "d0e834f62540a39b05deba5e9c2cc828a53347255790e34683f5396cbcba7b29"), looks := false }, kinds := [], alts := [], laidByText := true, laidKinds := [.data, .data, .data], laidTests := true, laidLooks := .later }
def TokenLexesUptoCardSaid : Prop := Claim7.holds Tryd.pinned (.plain (OpenSpec.upto tokenLexesSpec)) tokenLexesUptoCard

/-- THE SECOND FORM's CARD OF 'beaglelaw13.TokenElements'. -/
def tokenElementsUptoCard : Claim7 := { stood := { row := tokenElementsUptoRow, standIns := [], harness := (true, "d0e834f62540a39b05deba5e9c2cc828a53347255790e34683f5396cbcba7b29"), looks := false }, kinds := [], alts := [], laidByText := true, laidKinds := [.data, .data, .data], laidTests := true, laidLooks := .later }
def TokenElementsUptoCardSaid : Prop := Claim7.holds Tryd.pinned (.plain (OpenSpec.upto tokenElementsSpec)) tokenElementsUptoCard

/-- THE SECOND FORM's CARD OF 'beaglelaw13.TokenPrints'. -/
def tokenPrintsUptoCard : Claim7 := { stood := { row := tokenPrintsUptoRow, standIns := [], harness := (true, "d0e834f62540a39b05deba5e9c2cc828a53347255790e34683f5396cbcba7b29"), looks := false }, kinds := [], alts := [], laidByText := true, laidKinds := [.data, .data, .data], laidTests := true, laidLooks := .later }
def TokenPrintsUptoCardSaid : Prop := Claim7.holds Tryd.pinned (.plain (OpenSpec.upto tokenPrintsSpec)) tokenPrintsUptoCard

/-- THE SECOND FORM's CARD OF 'beaglelaw13.TokenRows'. -/
def tokenRowsUptoCard : Claim7 := { stood := { row := tokenRowsUptoRow, standIns := [], harness := (true, "d0e834f62540a39b05deba5e9c2cc828a53347255790e34683f5396cbcba7b29"), looks := false }, kinds := [], alts := [], laidByText := true, laidKinds := [.data, .data, .data], laidTests := true, laidLooks := .later }
def TokenRowsUptoCardSaid : Prop := Claim7.holds Tryd.pinned (.plain (OpenSpec.upto tokenRowsSpec)) tokenRowsUptoCard

/-- THE SECOND FORM's CARD OF 'beaglelaw13.TokenAgain'. -/
def tokenAgainUptoCard : Claim7 := { stood := { row := tokenAgainUptoRow, standIns := [], harness := (true, "d0e834f62540a39b05deba5e9c2cc828a53347255790e34683f5396cbcba7b29"), looks := false }, kinds := [], alts := [], laidByText := true, laidKinds := [.data, .data, .data], laidTests := true, laidLooks := .later }
def TokenAgainUptoCardSaid : Prop := Claim7.holds Tryd.pinned (.plain (OpenSpec.upto tokenAgainSpec)) tokenAgainUptoCard

/-- THE SECOND FORM's CARD OF 'beaglelaw13.TokenHead'. -/
def tokenHeadUptoCard : Claim7 := { stood := { row := tokenHeadUptoRow, standIns := [], harness := (true, "d0e834f62540a39b05deba5e9c2cc828a53347255790e34683f5396cbcba7b29"), looks := false }, kinds := [], alts := [], laidByText := true, laidKinds := [.data, .data, .data], laidTests := true, laidLooks := .later }
def TokenHeadUptoCardSaid : Prop := Claim7.holds Tryd.pinned (.plain (OpenSpec.upto tokenHeadSpec)) tokenHeadUptoCard
end Rows
end Go.Proofs.YtljahelbbafhlaaDoor
