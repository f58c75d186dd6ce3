/-
  DERIVED. GIVEN WITH THE SEED: THE CARDS: each row of YtcppcfbcgopmoaaDoorRows.lean that lists a variable, with what it lists TIED to the program's text (the seventh form; the later family's looks); each row that meets fmt, with fmt's text TOLD by the authors' own Lean function (tested against real Go, not proved from fmt's source: count such statements apart). THE CARD IS WHAT COUNTS. Prove the row's statement (the work); the ties are given (YtcppcfbcgopmoaaDoorTie.lean); close each card by the builder's one call (the guide's Derived/Test/ToyasCard.lean, 'card_holds'). Laid BY PROGRAM, IN A SANDBOX (cutbox-door.mjs). By AI agents, Wed Nov 11 2026. No macro, syntax, notation, axiom, sorry.
-/
import Derived.Test.YtcppcfbcgopmoaaDoorRows
import GoSem.ClaimSeven
namespace Go.Proofs.YtcppcfbcgopmoaaDoor
namespace Rows

/-- THE TIED CARD OF 'beaglelaw04.ConvSizes'. -/
def convSizesCard : Claim7 := { stood := { row := convSizesRow, standIns := [], harness := (true, "90120f04ba35304297d5bc504d6b42c653f90575297f2c4b0ad7a9be58e45d5d"), looks := false }, kinds := [], alts := [], laidByText := true, laidKinds := [.data], laidTests := true, laidLooks := .later }
def ConvSizesCardSaid : Prop := Claim7.holds Tryd.pinned (.plain (OpenSpec.ofChange convSizesSpec)) convSizesCard

/-- THE TIED CARD OF 'beaglelaw04.ConvSchool'. -/
def convSchoolCard : Claim7 := { stood := { row := convSchoolRow, standIns := [], harness := (true, "90120f04ba35304297d5bc504d6b42c653f90575297f2c4b0ad7a9be58e45d5d"), looks := false }, kinds := [], alts := [], laidByText := true, laidKinds := [.data], laidTests := true, laidLooks := .later }
def ConvSchoolCardSaid : Prop := Claim7.holds Tryd.pinned (.plain (OpenSpec.ofChange convSchoolSpec)) convSchoolCard

/-- THE TIED CARD OF 'beaglelaw04.ConvFast'. -/
def convFastCard : Claim7 := { stood := { row := convFastRow, standIns := [], harness := (true, "90120f04ba35304297d5bc504d6b42c653f90575297f2c4b0ad7a9be58e45d5d"), looks := false }, kinds := [], alts := [], laidByText := true, laidKinds := [.data], laidTests := true, laidLooks := .later }
def ConvFastCardSaid : Prop := Claim7.holds Tryd.pinned (.plain (OpenSpec.ofChange convFastSpec)) convFastCard

/-- THE TIED CARD OF 'beaglelaw04.ConvCorrelates'. -/
def convCorrelatesCard : Claim7 := { stood := { row := convCorrelatesRow, standIns := [], harness := (true, "90120f04ba35304297d5bc504d6b42c653f90575297f2c4b0ad7a9be58e45d5d"), looks := false }, kinds := [], alts := [], laidByText := true, laidKinds := [.data], laidTests := true, laidLooks := .later }
def ConvCorrelatesCardSaid : Prop := Claim7.holds Tryd.pinned (.plain (OpenSpec.ofChange convCorrelatesSpec)) convCorrelatesCard

/-- THE TIED CARD OF 'beaglelaw04.ConvSwaps'. -/
def convSwapsCard : Claim7 := { stood := { row := convSwapsRow, standIns := [], harness := (true, "90120f04ba35304297d5bc504d6b42c653f90575297f2c4b0ad7a9be58e45d5d"), looks := false }, kinds := [], alts := [], laidByText := true, laidKinds := [.data], laidTests := true, laidLooks := .later }
def ConvSwapsCardSaid : Prop := Claim7.holds Tryd.pinned (.plain (OpenSpec.ofChange convSwapsSpec)) convSwapsCard

/-- THE TIED CARD OF 'beaglelaw04.ConvSums'. -/
def convSumsCard : Claim7 := { stood := { row := convSumsRow, standIns := [], harness := (true, "90120f04ba35304297d5bc504d6b42c653f90575297f2c4b0ad7a9be58e45d5d"), looks := false }, kinds := [], alts := [], laidByText := true, laidKinds := [.data], laidTests := true, laidLooks := .later }
def ConvSumsCardSaid : Prop := Claim7.holds Tryd.pinned (.plain (OpenSpec.ofChange convSumsSpec)) convSumsCard

/-- THE TIED CARD OF 'beaglelaw04.ConvParts'. -/
def convPartsCard : Claim7 := { stood := { row := convPartsRow, standIns := [], harness := (true, "90120f04ba35304297d5bc504d6b42c653f90575297f2c4b0ad7a9be58e45d5d"), looks := false }, kinds := [], alts := [], laidByText := true, laidKinds := [.data], laidTests := true, laidLooks := .later }
def ConvPartsCardSaid : Prop := Claim7.holds Tryd.pinned (.plain (OpenSpec.ofChange convPartsSpec)) convPartsCard

/-- THE SECOND FORM's CARD OF 'beaglelaw04.ConvSizes'. -/
def convSizesUptoCard : Claim7 := { stood := { row := convSizesUptoRow, standIns := [], harness := (true, "90120f04ba35304297d5bc504d6b42c653f90575297f2c4b0ad7a9be58e45d5d"), looks := false }, kinds := [], alts := [], laidByText := true, laidKinds := [.data], laidTests := true, laidLooks := .later }
def ConvSizesUptoCardSaid : Prop := Claim7.holds Tryd.pinned (.plain (OpenSpec.upto convSizesSpec)) convSizesUptoCard

/-- THE SECOND FORM's CARD OF 'beaglelaw04.ConvSchool'. -/
def convSchoolUptoCard : Claim7 := { stood := { row := convSchoolUptoRow, standIns := [], harness := (true, "90120f04ba35304297d5bc504d6b42c653f90575297f2c4b0ad7a9be58e45d5d"), looks := false }, kinds := [], alts := [], laidByText := true, laidKinds := [.data], laidTests := true, laidLooks := .later }
def ConvSchoolUptoCardSaid : Prop := Claim7.holds Tryd.pinned (.plain (OpenSpec.upto convSchoolSpec)) convSchoolUptoCard

/-- THE SECOND FORM's CARD OF 'beaglelaw04.ConvFast'. -/
def convFastUptoCard : Claim7 := { stood := { row := convFastUptoRow, standIns := [], harness := (true, "90120f04ba35304297d5bc504d6b42c653f90575297f2c4b0ad7a9be58e45d5d"), looks := false }, kinds := [], alts := [], laidByText := true, laidKinds := [.data], laidTests := true, laidLooks := .later }
def ConvFastUptoCardSaid : Prop := Claim7.holds Tryd.pinned (.plain (OpenSpec.upto convFastSpec)) convFastUptoCard

/-- THE SECOND FORM's CARD OF 'beaglelaw04.ConvCorrelates'. -/
def convCorrelatesUptoCard : Claim7 := { stood := { row := convCorrelatesUptoRow, standIns := [], harness := (true, "90120f04ba35304297d5bc504d6b42c653f90575297f2c4b0ad7a9be58e45d5d"), looks := false }, kinds := [], alts := [], laidByText := true, laidKinds := [.data], laidTests := true, laidLooks := .later }
def ConvCorrelatesUptoCardSaid : Prop := Claim7.holds Tryd.pinned (.plain (OpenSpec.upto convCorrelatesSpec)) convCorrelatesUptoCard

/-- THE SECOND FORM's CARD OF 'beaglelaw04.ConvSwaps'. -/
def convSwapsUptoCard : Claim7 := { stood := { row := convSwapsUptoRow, standIns := [], harness := (true, "90120f04ba35304297d5bc504d6b42c653f90575297f2c4b0ad7a9be58e45d5d"), looks := false }, kinds := [], alts := [], laidByText := true, laidKinds := [.data], laidTests := true, laidLooks := .later }
def ConvSwapsUptoCardSaid : Prop := Claim7.holds Tryd.pinned (.plain (OpenSpec.upto convSwapsSpec)) convSwapsUptoCard

/-- THE SECOND FORM's CARD OF 'beaglelaw04.ConvSums'. -/
def convSumsUptoCard : Claim7 := { stood := { row := convSumsUptoRow, standIns := [], harness := (true, "90120f04ba35304297d5bc504d6b42c653f90575297f2c4b0ad7a9be58e45d5d"), looks := false }, kinds := [], alts := [], laidByText := true, laidKinds := [.data], laidTests := true, laidLooks := .later }
def ConvSumsUptoCardSaid : Prop := Claim7.holds Tryd.pinned (.plain (OpenSpec.upto convSumsSpec)) convSumsUptoCard

/-- THE SECOND FORM's CARD OF 'beaglelaw04.ConvParts'. -/
def convPartsUptoCard : Claim7 := { stood := { row := convPartsUptoRow, standIns := [], harness := (true, "90120f04ba35304297d5bc504d6b42c653f90575297f2c4b0ad7a9be58e45d5d"), looks := false }, kinds := [], alts := [], laidByText := true, laidKinds := [.data], laidTests := true, laidLooks := .later }
def ConvPartsUptoCardSaid : Prop := Claim7.holds Tryd.pinned (.plain (OpenSpec.upto convPartsSpec)) convPartsUptoCard
end Rows
end Go.Proofs.YtcppcfbcgopmoaaDoor
