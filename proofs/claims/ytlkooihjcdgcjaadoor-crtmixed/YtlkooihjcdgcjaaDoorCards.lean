/-
  DERIVED. GIVEN WITH THE SEED: THE CARDS: each row of YtlkooihjcdgcjaaDoorRows.lean that lists a variable, with what it lists TIED to the program's text (the seventh form; the later family's looks); each row that meets fmt, with fmt's text TOLD by the authors' own Lean function (tested against real Go, not proved from fmt's source: count such statements apart). THE CARD IS WHAT COUNTS. Prove the row's statement (the work); the ties are given (YtlkooihjcdgcjaaDoorTie.lean); close each card by the builder's one call (the guide's Derived/Test/ToyasCard.lean, 'card_holds'). Laid BY PROGRAM, IN A SANDBOX (cutbox-door.mjs). By AI agents, Wed Nov 11 2026. No macro, syntax, notation, axiom, sorry.
-/
import Derived.Test.YtlkooihjcdgcjaaDoorRows
import GoSem.ClaimSeven
namespace Go.Proofs.YtlkooihjcdgcjaaDoor
namespace Rows

/-- THE TIED CARD OF 'beaglelaw03.CrtMixed'. -/
def crtMixedCard : Claim7 := { stood := { row := crtMixedRow, standIns := [], harness := (true, "8aa887d0da21f1c573d704015f83f5546c24273e6bafcd45eab83cc857a39d84"), looks := false }, kinds := [], alts := [], laidByText := true, laidKinds := [.data], laidTests := true, laidLooks := .later }
def CrtMixedCardSaid : Prop := Claim7.holds Tryd.pinned (.plain (OpenSpec.ofChange crtMixedSpec)) crtMixedCard

/-- THE TIED CARD OF 'beaglelaw03.CrtJoins'. -/
def crtJoinsCard : Claim7 := { stood := { row := crtJoinsRow, standIns := [], harness := (true, "8aa887d0da21f1c573d704015f83f5546c24273e6bafcd45eab83cc857a39d84"), looks := false }, kinds := [], alts := [], laidByText := true, laidKinds := [.data], laidTests := true, laidLooks := .later }
def CrtJoinsCardSaid : Prop := Claim7.holds Tryd.pinned (.plain (OpenSpec.ofChange crtJoinsSpec)) crtJoinsCard

/-- THE TIED CARD OF 'beaglelaw03.CrtBack'. -/
def crtBackCard : Claim7 := { stood := { row := crtBackRow, standIns := [], harness := (true, "8aa887d0da21f1c573d704015f83f5546c24273e6bafcd45eab83cc857a39d84"), looks := false }, kinds := [], alts := [], laidByText := true, laidKinds := [.data], laidTests := true, laidLooks := .later }
def CrtBackCardSaid : Prop := Claim7.holds Tryd.pinned (.plain (OpenSpec.ofChange crtBackSpec)) crtBackCard

/-- THE TIED CARD OF 'beaglelaw03.CrtApart'. -/
def crtApartCard : Claim7 := { stood := { row := crtApartRow, standIns := [], harness := (true, "8aa887d0da21f1c573d704015f83f5546c24273e6bafcd45eab83cc857a39d84"), looks := false }, kinds := [], alts := [], laidByText := true, laidKinds := [.data], laidTests := true, laidLooks := .later }
def CrtApartCardSaid : Prop := Claim7.holds Tryd.pinned (.plain (OpenSpec.ofChange crtApartSpec)) crtApartCard

/-- THE TIED CARD OF 'beaglelaw03.CrtSums'. -/
def crtSumsCard : Claim7 := { stood := { row := crtSumsRow, standIns := [], harness := (true, "8aa887d0da21f1c573d704015f83f5546c24273e6bafcd45eab83cc857a39d84"), looks := false }, kinds := [], alts := [], laidByText := true, laidKinds := [.data], laidTests := true, laidLooks := .later }
def CrtSumsCardSaid : Prop := Claim7.holds Tryd.pinned (.plain (OpenSpec.ofChange crtSumsSpec)) crtSumsCard

/-- THE TIED CARD OF 'beaglelaw03.CrtRows'. -/
def crtRowsCard : Claim7 := { stood := { row := crtRowsRow, standIns := [], harness := (true, "8aa887d0da21f1c573d704015f83f5546c24273e6bafcd45eab83cc857a39d84"), looks := false }, kinds := [], alts := [], laidByText := true, laidKinds := [.data], laidTests := true, laidLooks := .later }
def CrtRowsCardSaid : Prop := Claim7.holds Tryd.pinned (.plain (OpenSpec.ofChange crtRowsSpec)) crtRowsCard

/-- THE SECOND FORM's CARD OF 'beaglelaw03.CrtMixed'. -/
def crtMixedUptoCard : Claim7 := { stood := { row := crtMixedUptoRow, standIns := [], harness := (true, "8aa887d0da21f1c573d704015f83f5546c24273e6bafcd45eab83cc857a39d84"), looks := false }, kinds := [], alts := [], laidByText := true, laidKinds := [.data], laidTests := true, laidLooks := .later }
def CrtMixedUptoCardSaid : Prop := Claim7.holds Tryd.pinned (.plain (OpenSpec.upto crtMixedSpec)) crtMixedUptoCard

/-- THE SECOND FORM's CARD OF 'beaglelaw03.CrtJoins'. -/
def crtJoinsUptoCard : Claim7 := { stood := { row := crtJoinsUptoRow, standIns := [], harness := (true, "8aa887d0da21f1c573d704015f83f5546c24273e6bafcd45eab83cc857a39d84"), looks := false }, kinds := [], alts := [], laidByText := true, laidKinds := [.data], laidTests := true, laidLooks := .later }
def CrtJoinsUptoCardSaid : Prop := Claim7.holds Tryd.pinned (.plain (OpenSpec.upto crtJoinsSpec)) crtJoinsUptoCard

/-- THE SECOND FORM's CARD OF 'beaglelaw03.CrtBack'. -/
def crtBackUptoCard : Claim7 := { stood := { row := crtBackUptoRow, standIns := [], harness := (true, "8aa887d0da21f1c573d704015f83f5546c24273e6bafcd45eab83cc857a39d84"), looks := false }, kinds := [], alts := [], laidByText := true, laidKinds := [.data], laidTests := true, laidLooks := .later }
def CrtBackUptoCardSaid : Prop := Claim7.holds Tryd.pinned (.plain (OpenSpec.upto crtBackSpec)) crtBackUptoCard

/-- THE SECOND FORM's CARD OF 'beaglelaw03.CrtApart'. -/
def crtApartUptoCard : Claim7 := { stood := { row := crtApartUptoRow, standIns := [], harness := (true, "8aa887d0da21f1c573d704015f83f5546c24273e6bafcd45eab83cc857a39d84"), looks := false }, kinds := [], alts := [], laidByText := true, laidKinds := [.data], laidTests := true, laidLooks := .later }
def CrtApartUptoCardSaid : Prop := Claim7.holds Tryd.pinned (.plain (OpenSpec.upto crtApartSpec)) crtApartUptoCard

/-- THE SECOND FORM's CARD OF 'beaglelaw03.CrtSums'. -/
def crtSumsUptoCard : Claim7 := { stood := { row := crtSumsUptoRow, standIns := [], harness := (true, "8aa887d0da21f1c573d704015f83f5546c24273e6bafcd45eab83cc857a39d84"), looks := false }, kinds := [], alts := [], laidByText := true, laidKinds := [.data], laidTests := true, laidLooks := .later }
def CrtSumsUptoCardSaid : Prop := Claim7.holds Tryd.pinned (.plain (OpenSpec.upto crtSumsSpec)) crtSumsUptoCard

/-- THE SECOND FORM's CARD OF 'beaglelaw03.CrtRows'. -/
def crtRowsUptoCard : Claim7 := { stood := { row := crtRowsUptoRow, standIns := [], harness := (true, "8aa887d0da21f1c573d704015f83f5546c24273e6bafcd45eab83cc857a39d84"), looks := false }, kinds := [], alts := [], laidByText := true, laidKinds := [.data], laidTests := true, laidLooks := .later }
def CrtRowsUptoCardSaid : Prop := Claim7.holds Tryd.pinned (.plain (OpenSpec.upto crtRowsSpec)) crtRowsUptoCard
end Rows
end Go.Proofs.YtlkooihjcdgcjaaDoor
