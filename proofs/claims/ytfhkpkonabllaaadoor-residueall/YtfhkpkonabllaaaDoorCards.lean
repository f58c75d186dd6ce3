/-
  DERIVED. GIVEN WITH THE SEED: THE CARDS: each row of YtfhkpkonabllaaaDoorRows.lean that lists a variable, with what it lists TIED to the program's text (the seventh form; the later family's looks); each row that meets fmt, with fmt's text TOLD by the authors' own Lean function (tested against real Go, not proved from fmt's source: count such statements apart). THE CARD IS WHAT COUNTS. Prove the row's statement (the work); the ties are given (YtfhkpkonabllaaaDoorTie.lean); close each card by the builder's one call (the guide's Derived/Test/ToyasCard.lean, 'card_holds'). Laid BY PROGRAM, IN A SANDBOX (cutbox-door.mjs). By AI agents, Wed Nov 11 2026. No macro, syntax, notation, axiom, sorry.
-/
import Derived.Test.YtfhkpkonabllaaaDoorRows
import GoSem.ClaimSeven
namespace Go.Proofs.YtfhkpkonabllaaaDoor
namespace Rows

/-- THE TIED CARD OF 'beaglelaw01.ResidueAll'. -/
def residueAllCard : Claim7 := { stood := { row := residueAllRow, standIns := [], harness := (true, "089e67ebea25b22a3d64810c8f9d5252fcb0a682a93a05d1a0ad0caf55b2d281"), looks := false }, kinds := [], alts := [], laidByText := true, laidKinds := [.data], laidTests := true, laidLooks := .later }
def ResidueAllCardSaid : Prop := Claim7.holds Tryd.pinned (.plain (OpenSpec.ofChange residueAllSpec)) residueAllCard

/-- THE TIED CARD OF 'beaglelaw01.ResiduePowers'. -/
def residuePowersCard : Claim7 := { stood := { row := residuePowersRow, standIns := [], harness := (true, "089e67ebea25b22a3d64810c8f9d5252fcb0a682a93a05d1a0ad0caf55b2d281"), looks := false }, kinds := [], alts := [], laidByText := true, laidKinds := [.data], laidTests := true, laidLooks := .later }
def ResiduePowersCardSaid : Prop := Claim7.holds Tryd.pinned (.plain (OpenSpec.ofChange residuePowersSpec)) residuePowersCard

/-- THE TIED CARD OF 'beaglelaw01.ResidueInverses'. -/
def residueInversesCard : Claim7 := { stood := { row := residueInversesRow, standIns := [], harness := (true, "089e67ebea25b22a3d64810c8f9d5252fcb0a682a93a05d1a0ad0caf55b2d281"), looks := false }, kinds := [], alts := [], laidByText := true, laidKinds := [.data], laidTests := true, laidLooks := .later }
def ResidueInversesCardSaid : Prop := Claim7.holds Tryd.pinned (.plain (OpenSpec.ofChange residueInversesSpec)) residueInversesCard

/-- THE TIED CARD OF 'beaglelaw01.ResidueRoots'. -/
def residueRootsCard : Claim7 := { stood := { row := residueRootsRow, standIns := [], harness := (true, "089e67ebea25b22a3d64810c8f9d5252fcb0a682a93a05d1a0ad0caf55b2d281"), looks := false }, kinds := [], alts := [], laidByText := true, laidKinds := [.data], laidTests := true, laidLooks := .later }
def ResidueRootsCardSaid : Prop := Claim7.holds Tryd.pinned (.plain (OpenSpec.ofChange residueRootsSpec)) residueRootsCard

/-- THE TIED CARD OF 'beaglelaw01.ResidueOrders'. -/
def residueOrdersCard : Claim7 := { stood := { row := residueOrdersRow, standIns := [], harness := (true, "089e67ebea25b22a3d64810c8f9d5252fcb0a682a93a05d1a0ad0caf55b2d281"), looks := false }, kinds := [], alts := [], laidByText := true, laidKinds := [.data], laidTests := true, laidLooks := .later }
def ResidueOrdersCardSaid : Prop := Claim7.holds Tryd.pinned (.plain (OpenSpec.ofChange residueOrdersSpec)) residueOrdersCard

/-- THE TIED CARD OF 'beaglelaw01.ResidueFermat'. -/
def residueFermatCard : Claim7 := { stood := { row := residueFermatRow, standIns := [], harness := (true, "089e67ebea25b22a3d64810c8f9d5252fcb0a682a93a05d1a0ad0caf55b2d281"), looks := false }, kinds := [], alts := [], laidByText := true, laidKinds := [.data], laidTests := true, laidLooks := .later }
def ResidueFermatCardSaid : Prop := Claim7.holds Tryd.pinned (.plain (OpenSpec.ofChange residueFermatSpec)) residueFermatCard

/-- THE SECOND FORM's CARD OF 'beaglelaw01.ResidueAll'. -/
def residueAllUptoCard : Claim7 := { stood := { row := residueAllUptoRow, standIns := [], harness := (true, "089e67ebea25b22a3d64810c8f9d5252fcb0a682a93a05d1a0ad0caf55b2d281"), looks := false }, kinds := [], alts := [], laidByText := true, laidKinds := [.data], laidTests := true, laidLooks := .later }
def ResidueAllUptoCardSaid : Prop := Claim7.holds Tryd.pinned (.plain (OpenSpec.upto residueAllSpec)) residueAllUptoCard

/-- THE SECOND FORM's CARD OF 'beaglelaw01.ResiduePowers'. -/
def residuePowersUptoCard : Claim7 := { stood := { row := residuePowersUptoRow, standIns := [], harness := (true, "089e67ebea25b22a3d64810c8f9d5252fcb0a682a93a05d1a0ad0caf55b2d281"), looks := false }, kinds := [], alts := [], laidByText := true, laidKinds := [.data], laidTests := true, laidLooks := .later }
def ResiduePowersUptoCardSaid : Prop := Claim7.holds Tryd.pinned (.plain (OpenSpec.upto residuePowersSpec)) residuePowersUptoCard

/-- THE SECOND FORM's CARD OF 'beaglelaw01.ResidueInverses'. -/
def residueInversesUptoCard : Claim7 := { stood := { row := residueInversesUptoRow, standIns := [], harness := (true, "089e67ebea25b22a3d64810c8f9d5252fcb0a682a93a05d1a0ad0caf55b2d281"), looks := false }, kinds := [], alts := [], laidByText := true, laidKinds := [.data], laidTests := true, laidLooks := .later }
def ResidueInversesUptoCardSaid : Prop := Claim7.holds Tryd.pinned (.plain (OpenSpec.upto residueInversesSpec)) residueInversesUptoCard

/-- THE SECOND FORM's CARD OF 'beaglelaw01.ResidueRoots'. -/
def residueRootsUptoCard : Claim7 := { stood := { row := residueRootsUptoRow, standIns := [], harness := (true, "089e67ebea25b22a3d64810c8f9d5252fcb0a682a93a05d1a0ad0caf55b2d281"), looks := false }, kinds := [], alts := [], laidByText := true, laidKinds := [.data], laidTests := true, laidLooks := .later }
def ResidueRootsUptoCardSaid : Prop := Claim7.holds Tryd.pinned (.plain (OpenSpec.upto residueRootsSpec)) residueRootsUptoCard

/-- THE SECOND FORM's CARD OF 'beaglelaw01.ResidueOrders'. -/
def residueOrdersUptoCard : Claim7 := { stood := { row := residueOrdersUptoRow, standIns := [], harness := (true, "089e67ebea25b22a3d64810c8f9d5252fcb0a682a93a05d1a0ad0caf55b2d281"), looks := false }, kinds := [], alts := [], laidByText := true, laidKinds := [.data], laidTests := true, laidLooks := .later }
def ResidueOrdersUptoCardSaid : Prop := Claim7.holds Tryd.pinned (.plain (OpenSpec.upto residueOrdersSpec)) residueOrdersUptoCard

/-- THE SECOND FORM's CARD OF 'beaglelaw01.ResidueFermat'. -/
def residueFermatUptoCard : Claim7 := { stood := { row := residueFermatUptoRow, standIns := [], harness := (true, "089e67ebea25b22a3d64810c8f9d5252fcb0a682a93a05d1a0ad0caf55b2d281"), looks := false }, kinds := [], alts := [], laidByText := true, laidKinds := [.data], laidTests := true, laidLooks := .later }
def ResidueFermatUptoCardSaid : Prop := Claim7.holds Tryd.pinned (.plain (OpenSpec.upto residueFermatSpec)) residueFermatUptoCard
end Rows
end Go.Proofs.YtfhkpkonabllaaaDoor
