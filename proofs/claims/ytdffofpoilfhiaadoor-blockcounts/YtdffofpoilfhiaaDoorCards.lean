/-
  DERIVED. GIVEN WITH THE SEED: THE CARDS: each row of YtdffofpoilfhiaaDoorRows.lean that lists a variable, with what it lists TIED to the program's text (the seventh form; the later family's looks); each row that meets fmt, with fmt's text TOLD by the authors' own Lean function (tested against real Go, not proved from fmt's source: count such statements apart). THE CARD IS WHAT COUNTS. Prove the row's statement (the work); the ties are given (YtdffofpoilfhiaaDoorTie.lean); close each card by the builder's one call (the guide's Derived/Test/ToyasCard.lean, 'card_holds'). Laid BY PROGRAM, IN A SANDBOX (cutbox-door.mjs). By AI agents, Wed Nov 11 2026. No macro, syntax, notation, axiom, sorry.
-/
import Derived.Test.YtdffofpoilfhiaaDoorRows
import GoSem.ClaimSeven
namespace Go.Proofs.YtdffofpoilfhiaaDoor
namespace Rows

/-- THE TIED CARD OF 'beaglelaw05.BlockChecks'. -/
def blockChecksCard : Claim7 := { stood := { row := blockChecksRow, standIns := [], harness := (true, "3caea173c1aba6c78b367be5264b928a7886079158161a8beedbca873b50a5d4"), looks := false }, kinds := [], alts := [], laidByText := true, laidKinds := [.data], laidTests := true, laidLooks := .later }
def BlockChecksCardSaid : Prop := Claim7.holds Tryd.pinned (.plain (OpenSpec.ofChange blockChecksSpec)) blockChecksCard

/-- THE TIED CARD OF 'beaglelaw05.BlockCounts'. -/
def blockCountsCard : Claim7 := { stood := { row := blockCountsRow, standIns := [], harness := (true, "3caea173c1aba6c78b367be5264b928a7886079158161a8beedbca873b50a5d4"), looks := false }, kinds := [], alts := [], laidByText := true, laidKinds := [.data], laidTests := true, laidLooks := .later }
def BlockCountsCardSaid : Prop := Claim7.holds Tryd.pinned (.plain (OpenSpec.ofChange blockCountsSpec)) blockCountsCard

/-- THE TIED CARD OF 'beaglelaw05.BlockFits'. -/
def blockFitsCard : Claim7 := { stood := { row := blockFitsRow, standIns := [], harness := (true, "3caea173c1aba6c78b367be5264b928a7886079158161a8beedbca873b50a5d4"), looks := false }, kinds := [], alts := [], laidByText := true, laidKinds := [.data], laidTests := true, laidLooks := .later }
def BlockFitsCardSaid : Prop := Claim7.holds Tryd.pinned (.plain (OpenSpec.ofChange blockFitsSpec)) blockFitsCard

/-- THE TIED CARD OF 'beaglelaw05.BlockCorrelates'. -/
def blockCorrelatesCard : Claim7 := { stood := { row := blockCorrelatesRow, standIns := [], harness := (true, "3caea173c1aba6c78b367be5264b928a7886079158161a8beedbca873b50a5d4"), looks := false }, kinds := [], alts := [], laidByText := true, laidKinds := [.data], laidTests := true, laidLooks := .later }
def BlockCorrelatesCardSaid : Prop := Claim7.holds Tryd.pinned (.plain (OpenSpec.ofChange blockCorrelatesSpec)) blockCorrelatesCard

/-- THE TIED CARD OF 'beaglelaw05.BlockSizes'. -/
def blockSizesCard : Claim7 := { stood := { row := blockSizesRow, standIns := [], harness := (true, "3caea173c1aba6c78b367be5264b928a7886079158161a8beedbca873b50a5d4"), looks := false }, kinds := [], alts := [], laidByText := true, laidKinds := [.data], laidTests := true, laidLooks := .later }
def BlockSizesCardSaid : Prop := Claim7.holds Tryd.pinned (.plain (OpenSpec.ofChange blockSizesSpec)) blockSizesCard

/-- THE TIED CARD OF 'beaglelaw05.BlockConv'. -/
def blockConvCard : Claim7 := { stood := { row := blockConvRow, standIns := [], harness := (true, "3caea173c1aba6c78b367be5264b928a7886079158161a8beedbca873b50a5d4"), looks := false }, kinds := [], alts := [], laidByText := true, laidKinds := [.data], laidTests := true, laidLooks := .later }
def BlockConvCardSaid : Prop := Claim7.holds Tryd.pinned (.plain (OpenSpec.ofChange blockConvSpec)) blockConvCard

/-- THE TIED CARD OF 'beaglelaw05.BlockMore'. -/
def blockMoreCard : Claim7 := { stood := { row := blockMoreRow, standIns := [], harness := (true, "3caea173c1aba6c78b367be5264b928a7886079158161a8beedbca873b50a5d4"), looks := false }, kinds := [], alts := [], laidByText := true, laidKinds := [.data], laidTests := true, laidLooks := .later }
def BlockMoreCardSaid : Prop := Claim7.holds Tryd.pinned (.plain (OpenSpec.ofChange blockMoreSpec)) blockMoreCard

/-- THE SECOND FORM's CARD OF 'beaglelaw05.BlockChecks'. -/
def blockChecksUptoCard : Claim7 := { stood := { row := blockChecksUptoRow, standIns := [], harness := (true, "3caea173c1aba6c78b367be5264b928a7886079158161a8beedbca873b50a5d4"), looks := false }, kinds := [], alts := [], laidByText := true, laidKinds := [.data], laidTests := true, laidLooks := .later }
def BlockChecksUptoCardSaid : Prop := Claim7.holds Tryd.pinned (.plain (OpenSpec.upto blockChecksSpec)) blockChecksUptoCard

/-- THE SECOND FORM's CARD OF 'beaglelaw05.BlockCounts'. -/
def blockCountsUptoCard : Claim7 := { stood := { row := blockCountsUptoRow, standIns := [], harness := (true, "3caea173c1aba6c78b367be5264b928a7886079158161a8beedbca873b50a5d4"), looks := false }, kinds := [], alts := [], laidByText := true, laidKinds := [.data], laidTests := true, laidLooks := .later }
def BlockCountsUptoCardSaid : Prop := Claim7.holds Tryd.pinned (.plain (OpenSpec.upto blockCountsSpec)) blockCountsUptoCard

/-- THE SECOND FORM's CARD OF 'beaglelaw05.BlockFits'. -/
def blockFitsUptoCard : Claim7 := { stood := { row := blockFitsUptoRow, standIns := [], harness := (true, "3caea173c1aba6c78b367be5264b928a7886079158161a8beedbca873b50a5d4"), looks := false }, kinds := [], alts := [], laidByText := true, laidKinds := [.data], laidTests := true, laidLooks := .later }
def BlockFitsUptoCardSaid : Prop := Claim7.holds Tryd.pinned (.plain (OpenSpec.upto blockFitsSpec)) blockFitsUptoCard

/-- THE SECOND FORM's CARD OF 'beaglelaw05.BlockCorrelates'. -/
def blockCorrelatesUptoCard : Claim7 := { stood := { row := blockCorrelatesUptoRow, standIns := [], harness := (true, "3caea173c1aba6c78b367be5264b928a7886079158161a8beedbca873b50a5d4"), looks := false }, kinds := [], alts := [], laidByText := true, laidKinds := [.data], laidTests := true, laidLooks := .later }
def BlockCorrelatesUptoCardSaid : Prop := Claim7.holds Tryd.pinned (.plain (OpenSpec.upto blockCorrelatesSpec)) blockCorrelatesUptoCard

/-- THE SECOND FORM's CARD OF 'beaglelaw05.BlockSizes'. -/
def blockSizesUptoCard : Claim7 := { stood := { row := blockSizesUptoRow, standIns := [], harness := (true, "3caea173c1aba6c78b367be5264b928a7886079158161a8beedbca873b50a5d4"), looks := false }, kinds := [], alts := [], laidByText := true, laidKinds := [.data], laidTests := true, laidLooks := .later }
def BlockSizesUptoCardSaid : Prop := Claim7.holds Tryd.pinned (.plain (OpenSpec.upto blockSizesSpec)) blockSizesUptoCard

/-- THE SECOND FORM's CARD OF 'beaglelaw05.BlockConv'. -/
def blockConvUptoCard : Claim7 := { stood := { row := blockConvUptoRow, standIns := [], harness := (true, "3caea173c1aba6c78b367be5264b928a7886079158161a8beedbca873b50a5d4"), looks := false }, kinds := [], alts := [], laidByText := true, laidKinds := [.data], laidTests := true, laidLooks := .later }
def BlockConvUptoCardSaid : Prop := Claim7.holds Tryd.pinned (.plain (OpenSpec.upto blockConvSpec)) blockConvUptoCard

/-- THE SECOND FORM's CARD OF 'beaglelaw05.BlockMore'. -/
def blockMoreUptoCard : Claim7 := { stood := { row := blockMoreUptoRow, standIns := [], harness := (true, "3caea173c1aba6c78b367be5264b928a7886079158161a8beedbca873b50a5d4"), looks := false }, kinds := [], alts := [], laidByText := true, laidKinds := [.data], laidTests := true, laidLooks := .later }
def BlockMoreUptoCardSaid : Prop := Claim7.holds Tryd.pinned (.plain (OpenSpec.upto blockMoreSpec)) blockMoreUptoCard
end Rows
end Go.Proofs.YtdffofpoilfhiaaDoor
