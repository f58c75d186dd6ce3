/-
  DERIVED. GIVEN WITH THE SEED: THE CARDS: each row of YtcohcdebbkfdfaaDoorRows.lean that lists a variable, with what it lists TIED to the program's text (the seventh form; the later family's looks); each row that meets fmt, with fmt's text TOLD by the authors' own Lean function (tested against real Go, not proved from fmt's source: count such statements apart). THE CARD IS WHAT COUNTS. Prove the row's statement (the work); the ties are given (YtcohcdebbkfdfaaDoorTie.lean); close each card by the builder's one call (the guide's Derived/Test/ToyasCard.lean, 'card_holds'). Laid BY PROGRAM, IN A SANDBOX (cutbox-door.mjs). By AI agents, Wed Nov 11 2026. No macro, syntax, notation, axiom, sorry.
-/
import Derived.Test.YtcohcdebbkfdfaaDoorRows
import GoSem.ClaimSeven
namespace Go.Proofs.YtcohcdebbkfdfaaDoor
namespace Rows

/-- THE TIED CARD OF 'beaglelaw07.LeafRight'. -/
def leafRightCard : Claim7 := { stood := { row := leafRightRow, standIns := [], harness := (true, "dffcf7e8ac2a5e3327b893d6e10b02136ce6f7bce16f6155b0027e454ac3ae58"), looks := false }, kinds := [], alts := [], laidByText := true, laidKinds := [.data], laidTests := true, laidLooks := .later }
def LeafRightCardSaid : Prop := Claim7.holds Tryd.pinned (.plain (OpenSpec.ofChange leafRightSpec)) leafRightCard

/-- THE TIED CARD OF 'beaglelaw07.LeafTexts'. -/
def leafTextsCard : Claim7 := { stood := { row := leafTextsRow, standIns := [], harness := (true, "dffcf7e8ac2a5e3327b893d6e10b02136ce6f7bce16f6155b0027e454ac3ae58"), looks := false }, kinds := [], alts := [], laidByText := true, laidKinds := [.data], laidTests := true, laidLooks := .later }
def LeafTextsCardSaid : Prop := Claim7.holds Tryd.pinned (.plain (OpenSpec.ofChange leafTextsSpec)) leafTextsCard

/-- THE TIED CARD OF 'beaglelaw07.LeafLetters'. -/
def leafLettersCard : Claim7 := { stood := { row := leafLettersRow, standIns := [], harness := (true, "dffcf7e8ac2a5e3327b893d6e10b02136ce6f7bce16f6155b0027e454ac3ae58"), looks := false }, kinds := [], alts := [], laidByText := true, laidKinds := [.data], laidTests := true, laidLooks := .later }
def LeafLettersCardSaid : Prop := Claim7.holds Tryd.pinned (.plain (OpenSpec.ofChange leafLettersSpec)) leafLettersCard

/-- THE TIED CARD OF 'beaglelaw07.LeafKinds'. -/
def leafKindsCard : Claim7 := { stood := { row := leafKindsRow, standIns := [], harness := (true, "dffcf7e8ac2a5e3327b893d6e10b02136ce6f7bce16f6155b0027e454ac3ae58"), looks := false }, kinds := [], alts := [], laidByText := true, laidKinds := [.data], laidTests := true, laidLooks := .later }
def LeafKindsCardSaid : Prop := Claim7.holds Tryd.pinned (.plain (OpenSpec.ofChange leafKindsSpec)) leafKindsCard

/-- THE TIED CARD OF 'beaglelaw07.LeafOnce'. -/
def leafOnceCard : Claim7 := { stood := { row := leafOnceRow, standIns := [], harness := (true, "dffcf7e8ac2a5e3327b893d6e10b02136ce6f7bce16f6155b0027e454ac3ae58"), looks := false }, kinds := [], alts := [], laidByText := true, laidKinds := [.data], laidTests := true, laidLooks := .later }
def LeafOnceCardSaid : Prop := Claim7.holds Tryd.pinned (.plain (OpenSpec.ofChange leafOnceSpec)) leafOnceCard

/-- THE TIED CARD OF 'beaglelaw07.LeafSame'. -/
def leafSameCard : Claim7 := { stood := { row := leafSameRow, standIns := [], harness := (true, "dffcf7e8ac2a5e3327b893d6e10b02136ce6f7bce16f6155b0027e454ac3ae58"), looks := false }, kinds := [], alts := [], laidByText := true, laidKinds := [.data], laidTests := true, laidLooks := .later }
def LeafSameCardSaid : Prop := Claim7.holds Tryd.pinned (.plain (OpenSpec.ofChange leafSameSpec)) leafSameCard

/-- THE SECOND FORM's CARD OF 'beaglelaw07.LeafRight'. -/
def leafRightUptoCard : Claim7 := { stood := { row := leafRightUptoRow, standIns := [], harness := (true, "dffcf7e8ac2a5e3327b893d6e10b02136ce6f7bce16f6155b0027e454ac3ae58"), looks := false }, kinds := [], alts := [], laidByText := true, laidKinds := [.data], laidTests := true, laidLooks := .later }
def LeafRightUptoCardSaid : Prop := Claim7.holds Tryd.pinned (.plain (OpenSpec.upto leafRightSpec)) leafRightUptoCard

/-- THE SECOND FORM's CARD OF 'beaglelaw07.LeafTexts'. -/
def leafTextsUptoCard : Claim7 := { stood := { row := leafTextsUptoRow, standIns := [], harness := (true, "dffcf7e8ac2a5e3327b893d6e10b02136ce6f7bce16f6155b0027e454ac3ae58"), looks := false }, kinds := [], alts := [], laidByText := true, laidKinds := [.data], laidTests := true, laidLooks := .later }
def LeafTextsUptoCardSaid : Prop := Claim7.holds Tryd.pinned (.plain (OpenSpec.upto leafTextsSpec)) leafTextsUptoCard

/-- THE SECOND FORM's CARD OF 'beaglelaw07.LeafLetters'. -/
def leafLettersUptoCard : Claim7 := { stood := { row := leafLettersUptoRow, standIns := [], harness := (true, "dffcf7e8ac2a5e3327b893d6e10b02136ce6f7bce16f6155b0027e454ac3ae58"), looks := false }, kinds := [], alts := [], laidByText := true, laidKinds := [.data], laidTests := true, laidLooks := .later }
def LeafLettersUptoCardSaid : Prop := Claim7.holds Tryd.pinned (.plain (OpenSpec.upto leafLettersSpec)) leafLettersUptoCard

/-- THE SECOND FORM's CARD OF 'beaglelaw07.LeafKinds'. -/
def leafKindsUptoCard : Claim7 := { stood := { row := leafKindsUptoRow, standIns := [], harness := (true, "dffcf7e8ac2a5e3327b893d6e10b02136ce6f7bce16f6155b0027e454ac3ae58"), looks := false }, kinds := [], alts := [], laidByText := true, laidKinds := [.data], laidTests := true, laidLooks := .later }
def LeafKindsUptoCardSaid : Prop := Claim7.holds Tryd.pinned (.plain (OpenSpec.upto leafKindsSpec)) leafKindsUptoCard

/-- THE SECOND FORM's CARD OF 'beaglelaw07.LeafOnce'. -/
def leafOnceUptoCard : Claim7 := { stood := { row := leafOnceUptoRow, standIns := [], harness := (true, "dffcf7e8ac2a5e3327b893d6e10b02136ce6f7bce16f6155b0027e454ac3ae58"), looks := false }, kinds := [], alts := [], laidByText := true, laidKinds := [.data], laidTests := true, laidLooks := .later }
def LeafOnceUptoCardSaid : Prop := Claim7.holds Tryd.pinned (.plain (OpenSpec.upto leafOnceSpec)) leafOnceUptoCard

/-- THE SECOND FORM's CARD OF 'beaglelaw07.LeafSame'. -/
def leafSameUptoCard : Claim7 := { stood := { row := leafSameUptoRow, standIns := [], harness := (true, "dffcf7e8ac2a5e3327b893d6e10b02136ce6f7bce16f6155b0027e454ac3ae58"), looks := false }, kinds := [], alts := [], laidByText := true, laidKinds := [.data], laidTests := true, laidLooks := .later }
def LeafSameUptoCardSaid : Prop := Claim7.holds Tryd.pinned (.plain (OpenSpec.upto leafSameSpec)) leafSameUptoCard
end Rows
end Go.Proofs.YtcohcdebbkfdfaaDoor
