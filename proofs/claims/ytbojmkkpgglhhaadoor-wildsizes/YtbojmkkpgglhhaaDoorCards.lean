/-
  DERIVED. GIVEN WITH THE SEED: THE CARDS: each row of YtbojmkkpgglhhaaDoorRows.lean that lists a variable, with what it lists TIED to the program's text (the seventh form; the later family's looks); each row that meets fmt, with fmt's text TOLD by the authors' own Lean function (tested against real Go, not proved from fmt's source: count such statements apart). THE CARD IS WHAT COUNTS. Prove the row's statement (the work); the ties are given (YtbojmkkpgglhhaaDoorTie.lean); close each card by the builder's one call (the guide's Derived/Test/ToyasCard.lean, 'card_holds'). Laid BY PROGRAM, IN A SANDBOX (cutbox-door.mjs). By AI agents, Wed Nov 11 2026. No macro, syntax, notation, axiom, sorry.
-/
import Derived.Test.YtbojmkkpgglhhaaDoorRows
import GoSem.ClaimSeven
namespace Go.Proofs.YtbojmkkpgglhhaaDoor
namespace Rows

/-- THE TIED CARD OF 'beaglelaw10.WildValues'. -/
def wildValuesCard : Claim7 := { stood := { row := wildValuesRow, standIns := [], harness := (true, "939574dd19994d5d7a93fdd045251b015ebe9e91f9c101f72721bc7dd64a4ce5"), looks := false }, kinds := [], alts := [], laidByText := true, laidKinds := [.data, .data], laidTests := true, laidLooks := .later }
def WildValuesCardSaid : Prop := Claim7.holds Tryd.pinned (.plain (OpenSpec.ofChange wildValuesSpec)) wildValuesCard

/-- THE TIED CARD OF 'beaglelaw10.WildSums'. -/
def wildSumsCard : Claim7 := { stood := { row := wildSumsRow, standIns := [], harness := (true, "939574dd19994d5d7a93fdd045251b015ebe9e91f9c101f72721bc7dd64a4ce5"), looks := false }, kinds := [], alts := [], laidByText := true, laidKinds := [.data, .data], laidTests := true, laidLooks := .later }
def WildSumsCardSaid : Prop := Claim7.holds Tryd.pinned (.plain (OpenSpec.ofChange wildSumsSpec)) wildSumsCard

/-- THE TIED CARD OF 'beaglelaw10.WildFinds'. -/
def wildFindsCard : Claim7 := { stood := { row := wildFindsRow, standIns := [], harness := (true, "939574dd19994d5d7a93fdd045251b015ebe9e91f9c101f72721bc7dd64a4ce5"), looks := false }, kinds := [], alts := [], laidByText := true, laidKinds := [.data, .data], laidTests := true, laidLooks := .later }
def WildFindsCardSaid : Prop := Claim7.holds Tryd.pinned (.plain (OpenSpec.ofChange wildFindsSpec)) wildFindsCard

/-- THE TIED CARD OF 'beaglelaw10.WildZero'. -/
def wildZeroCard : Claim7 := { stood := { row := wildZeroRow, standIns := [], harness := (true, "939574dd19994d5d7a93fdd045251b015ebe9e91f9c101f72721bc7dd64a4ce5"), looks := false }, kinds := [], alts := [], laidByText := true, laidKinds := [.data, .data], laidTests := true, laidLooks := .later }
def WildZeroCardSaid : Prop := Claim7.holds Tryd.pinned (.plain (OpenSpec.ofChange wildZeroSpec)) wildZeroCard

/-- THE TIED CARD OF 'beaglelaw10.WildSizes'. -/
def wildSizesCard : Claim7 := { stood := { row := wildSizesRow, standIns := [], harness := (true, "939574dd19994d5d7a93fdd045251b015ebe9e91f9c101f72721bc7dd64a4ce5"), looks := false }, kinds := [], alts := [], laidByText := true, laidKinds := [.data, .data], laidTests := true, laidLooks := .later }
def WildSizesCardSaid : Prop := Claim7.holds Tryd.pinned (.plain (OpenSpec.ofChange wildSizesSpec)) wildSizesCard

/-- THE TIED CARD OF 'beaglelaw10.WildGreat'. -/
def wildGreatCard : Claim7 := { stood := { row := wildGreatRow, standIns := [], harness := (true, "939574dd19994d5d7a93fdd045251b015ebe9e91f9c101f72721bc7dd64a4ce5"), looks := false }, kinds := [], alts := [], laidByText := true, laidKinds := [.data, .data], laidTests := true, laidLooks := .later }
def WildGreatCardSaid : Prop := Claim7.holds Tryd.pinned (.plain (OpenSpec.ofChange wildGreatSpec)) wildGreatCard

/-- THE SECOND FORM's CARD OF 'beaglelaw10.WildValues'. -/
def wildValuesUptoCard : Claim7 := { stood := { row := wildValuesUptoRow, standIns := [], harness := (true, "939574dd19994d5d7a93fdd045251b015ebe9e91f9c101f72721bc7dd64a4ce5"), looks := false }, kinds := [], alts := [], laidByText := true, laidKinds := [.data, .data], laidTests := true, laidLooks := .later }
def WildValuesUptoCardSaid : Prop := Claim7.holds Tryd.pinned (.plain (OpenSpec.upto wildValuesSpec)) wildValuesUptoCard

/-- THE SECOND FORM's CARD OF 'beaglelaw10.WildSums'. -/
def wildSumsUptoCard : Claim7 := { stood := { row := wildSumsUptoRow, standIns := [], harness := (true, "939574dd19994d5d7a93fdd045251b015ebe9e91f9c101f72721bc7dd64a4ce5"), looks := false }, kinds := [], alts := [], laidByText := true, laidKinds := [.data, .data], laidTests := true, laidLooks := .later }
def WildSumsUptoCardSaid : Prop := Claim7.holds Tryd.pinned (.plain (OpenSpec.upto wildSumsSpec)) wildSumsUptoCard

/-- THE SECOND FORM's CARD OF 'beaglelaw10.WildFinds'. -/
def wildFindsUptoCard : Claim7 := { stood := { row := wildFindsUptoRow, standIns := [], harness := (true, "939574dd19994d5d7a93fdd045251b015ebe9e91f9c101f72721bc7dd64a4ce5"), looks := false }, kinds := [], alts := [], laidByText := true, laidKinds := [.data, .data], laidTests := true, laidLooks := .later }
def WildFindsUptoCardSaid : Prop := Claim7.holds Tryd.pinned (.plain (OpenSpec.upto wildFindsSpec)) wildFindsUptoCard

/-- THE SECOND FORM's CARD OF 'beaglelaw10.WildZero'. -/
def wildZeroUptoCard : Claim7 := { stood := { row := wildZeroUptoRow, standIns := [], harness := (true, "939574dd19994d5d7a93fdd045251b015ebe9e91f9c101f72721bc7dd64a4ce5"), looks := false }, kinds := [], alts := [], laidByText := true, laidKinds := [.data, .data], laidTests := true, laidLooks := .later }
def WildZeroUptoCardSaid : Prop := Claim7.holds Tryd.pinned (.plain (OpenSpec.upto wildZeroSpec)) wildZeroUptoCard

/-- THE SECOND FORM's CARD OF 'beaglelaw10.WildSizes'. -/
def wildSizesUptoCard : Claim7 := { stood := { row := wildSizesUptoRow, standIns := [], harness := (true, "939574dd19994d5d7a93fdd045251b015ebe9e91f9c101f72721bc7dd64a4ce5"), looks := false }, kinds := [], alts := [], laidByText := true, laidKinds := [.data, .data], laidTests := true, laidLooks := .later }
def WildSizesUptoCardSaid : Prop := Claim7.holds Tryd.pinned (.plain (OpenSpec.upto wildSizesSpec)) wildSizesUptoCard

/-- THE SECOND FORM's CARD OF 'beaglelaw10.WildGreat'. -/
def wildGreatUptoCard : Claim7 := { stood := { row := wildGreatUptoRow, standIns := [], harness := (true, "939574dd19994d5d7a93fdd045251b015ebe9e91f9c101f72721bc7dd64a4ce5"), looks := false }, kinds := [], alts := [], laidByText := true, laidKinds := [.data, .data], laidTests := true, laidLooks := .later }
def WildGreatUptoCardSaid : Prop := Claim7.holds Tryd.pinned (.plain (OpenSpec.upto wildGreatSpec)) wildGreatUptoCard
end Rows
end Go.Proofs.YtbojmkkpgglhhaaDoor
