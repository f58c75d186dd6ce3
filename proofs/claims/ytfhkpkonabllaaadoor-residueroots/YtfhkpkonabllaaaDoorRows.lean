/-
  NARROWER THAN 'FOR EVERY INPUT', by the rows' own cells (each row's printed sentence says how): ResidueAll: laid · ResiduePowers: laid · ResidueInverses: laid · ResidueRoots: laid · ResidueOrders: laid · ResidueFermat: laid.
  DERIVED. THE GIVEN ROWS OF THIS SEAT. 6 by the template 'for every input the law returns true; each argument reads behind the call as it read before'; 0 by the template 'total and deterministic' (their statements: YtfhkpkonabllaaaDoorTotals.lean).
  GIVEN WITH THE SEED: the statements are not yours to turn. If you find one false, say at which input.
  Laid BY PROGRAM, IN A SANDBOX (cutbox-rows.mjs): the forced cells as the released guide's own fill.sh prints them over the translation 0ce7e7fc3f73577f… (all of the seat's roots in one cut). By AI agents, Wed Nov 11 2026. No macro, syntax, notation, axiom, sorry.
-/
import Derived.Test.YtfhkpkonabllaaaDoorChecked
import GoSem.Claim
import GoSem.ClaimJoined
import GoSem.ClaimMapViews
import Derived.JoinedTies
import Derived.KernelRfl
namespace Go.Proofs.YtfhkpkonabllaaaDoor
/- THE CELL 'sum', in the pinned program and in every row, IS THE sha256 OF THE DUMP (.gsa) THAT YtfhkpkonabllaaaDoorProg.lean LOADS. Nothing in Lean hashes anything: it is a label: what it is worth is what the hold of that sum in a sandbox is worth. -/
noncomputable def Tryd.pinned : Pinned := { name := "ytfhkpkonabllaaadoor", sum := "0ce7e7fc3f73577fa4f2d7ffa33974c3635ec70f56d9cc8a9af1017fa940b1ae", checked := Tryd.checked }
namespace Rows
def none {H : Type} : Left H := { results := [], args := [] }

/- WHAT THE LISTED PACKAGE-LEVEL VARIABLES READ AS WHEN THE CALL BEGINS. Each datum BY PROGRAM (the guide's laid-datum.mjs) off the statement by which the dump's own 'gosem.cut.vars' lays the variable. In a bare row this is a premise. The card (YtfhkpkonabllaaaDoorCards.lean) ties it to the program's text. -/
def laid_beagle_residue_primes {H : Type} : DataW H := .agg [.lit (.int .u64 998244353), .lit (.int .u64 167772161), .lit (.int .u64 469762049)]

/-- 'beaglelaw01.ResidueAll': WHATEVER THE INPUT: true; the input reads as it did. -/
def residueAllSpec : ChangeSpec := { name := "residueAll", fn := fun _ => fun
  | [d1, d2, d3] => { results := [.lit (.bool true)], args := [d1, d2, d3] }
  | _ => none }
def residueAllRow : OpenClaim := { program := "ytfhkpkonabllaaadoor", sum := "0ce7e7fc3f73577fa4f2d7ffa33974c3635ec70f56d9cc8a9af1017fa940b1ae", func := "beagle/beaglelaw01.ResidueAll", spec := "residueAll", named := ["beagle/residue.primes"], apart := false, laid := [("beagle/residue.primes", laid_beagle_residue_primes)] }
def ResidueAllSaid : Prop := residueAllRow.holds Tryd.pinned (OpenSpec.ofChange residueAllSpec)

/-- ITS FALSE NEIGHBOUR: 'it returns false'. Refute it at one input. -/
def residueAllWrong : ChangeSpec := { name := "residueAll", fn := fun _ => fun
  | [d1, d2, d3] => { results := [.lit (.bool false)], args := [d1, d2, d3] }
  | _ => none }
def ResidueAllWrongFalsely : Prop := residueAllRow.holds Tryd.pinned (OpenSpec.ofChange residueAllWrong)

/-- 'beaglelaw01.ResiduePowers': WHATEVER THE INPUT: true; the input reads as it did. -/
def residuePowersSpec : ChangeSpec := { name := "residuePowers", fn := fun _ => fun
  | [d1, d2, d3] => { results := [.lit (.bool true)], args := [d1, d2, d3] }
  | _ => none }
def residuePowersRow : OpenClaim := { program := "ytfhkpkonabllaaadoor", sum := "0ce7e7fc3f73577fa4f2d7ffa33974c3635ec70f56d9cc8a9af1017fa940b1ae", func := "beagle/beaglelaw01.ResiduePowers", spec := "residuePowers", recurses := true, named := ["beagle/residue.primes"], apart := false, laid := [("beagle/residue.primes", laid_beagle_residue_primes)] }
def ResiduePowersSaid : Prop := residuePowersRow.holds Tryd.pinned (OpenSpec.ofChange residuePowersSpec)

/-- ITS FALSE NEIGHBOUR: 'it returns false'. Refute it at one input. -/
def residuePowersWrong : ChangeSpec := { name := "residuePowers", fn := fun _ => fun
  | [d1, d2, d3] => { results := [.lit (.bool false)], args := [d1, d2, d3] }
  | _ => none }
def ResiduePowersWrongFalsely : Prop := residuePowersRow.holds Tryd.pinned (OpenSpec.ofChange residuePowersWrong)

/-- 'beaglelaw01.ResidueInverses': WHATEVER THE INPUT: true; the input reads as it did. -/
def residueInversesSpec : ChangeSpec := { name := "residueInverses", fn := fun _ => fun
  | [d1, d2] => { results := [.lit (.bool true)], args := [d1, d2] }
  | _ => none }
def residueInversesRow : OpenClaim := { program := "ytfhkpkonabllaaadoor", sum := "0ce7e7fc3f73577fa4f2d7ffa33974c3635ec70f56d9cc8a9af1017fa940b1ae", func := "beagle/beaglelaw01.ResidueInverses", spec := "residueInverses", named := ["beagle/residue.primes"], apart := false, laid := [("beagle/residue.primes", laid_beagle_residue_primes)] }
def ResidueInversesSaid : Prop := residueInversesRow.holds Tryd.pinned (OpenSpec.ofChange residueInversesSpec)

/-- ITS FALSE NEIGHBOUR: 'it returns false'. Refute it at one input. -/
def residueInversesWrong : ChangeSpec := { name := "residueInverses", fn := fun _ => fun
  | [d1, d2] => { results := [.lit (.bool false)], args := [d1, d2] }
  | _ => none }
def ResidueInversesWrongFalsely : Prop := residueInversesRow.holds Tryd.pinned (OpenSpec.ofChange residueInversesWrong)

/-- 'beaglelaw01.ResidueRoots': WHATEVER THE INPUT: true; the input reads as it did. -/
def residueRootsSpec : ChangeSpec := { name := "residueRoots", fn := fun _ => fun
  | [d1, d2] => { results := [.lit (.bool true)], args := [d1, d2] }
  | _ => none }
def residueRootsRow : OpenClaim := { program := "ytfhkpkonabllaaadoor", sum := "0ce7e7fc3f73577fa4f2d7ffa33974c3635ec70f56d9cc8a9af1017fa940b1ae", func := "beagle/beaglelaw01.ResidueRoots", spec := "residueRoots", recurses := true, named := ["beagle/residue.primes"], apart := false, laid := [("beagle/residue.primes", laid_beagle_residue_primes)] }
def ResidueRootsSaid : Prop := residueRootsRow.holds Tryd.pinned (OpenSpec.ofChange residueRootsSpec)

/-- ITS FALSE NEIGHBOUR: 'it returns false'. Refute it at one input. -/
def residueRootsWrong : ChangeSpec := { name := "residueRoots", fn := fun _ => fun
  | [d1, d2] => { results := [.lit (.bool false)], args := [d1, d2] }
  | _ => none }
def ResidueRootsWrongFalsely : Prop := residueRootsRow.holds Tryd.pinned (OpenSpec.ofChange residueRootsWrong)

/-- 'beaglelaw01.ResidueOrders': WHATEVER THE INPUT: true; the input reads as it did. -/
def residueOrdersSpec : ChangeSpec := { name := "residueOrders", fn := fun _ => fun
  | [d1, d2] => { results := [.lit (.bool true)], args := [d1, d2] }
  | _ => none }
def residueOrdersRow : OpenClaim := { program := "ytfhkpkonabllaaadoor", sum := "0ce7e7fc3f73577fa4f2d7ffa33974c3635ec70f56d9cc8a9af1017fa940b1ae", func := "beagle/beaglelaw01.ResidueOrders", spec := "residueOrders", unfollowed := true, recurses := true, named := ["beagle/residue.primes"], apart := false, laid := [("beagle/residue.primes", laid_beagle_residue_primes)] }
def ResidueOrdersSaid : Prop := residueOrdersRow.holds Tryd.pinned (OpenSpec.ofChange residueOrdersSpec)

/-- ITS FALSE NEIGHBOUR: 'it returns false'. Refute it at one input. -/
def residueOrdersWrong : ChangeSpec := { name := "residueOrders", fn := fun _ => fun
  | [d1, d2] => { results := [.lit (.bool false)], args := [d1, d2] }
  | _ => none }
def ResidueOrdersWrongFalsely : Prop := residueOrdersRow.holds Tryd.pinned (OpenSpec.ofChange residueOrdersWrong)

/-- 'beaglelaw01.ResidueFermat': WHATEVER THE INPUT: true; the input reads as it did. -/
def residueFermatSpec : ChangeSpec := { name := "residueFermat", fn := fun _ => fun
  | [d1, d2] => { results := [.lit (.bool true)], args := [d1, d2] }
  | _ => none }
def residueFermatRow : OpenClaim := { program := "ytfhkpkonabllaaadoor", sum := "0ce7e7fc3f73577fa4f2d7ffa33974c3635ec70f56d9cc8a9af1017fa940b1ae", func := "beagle/beaglelaw01.ResidueFermat", spec := "residueFermat", named := ["beagle/residue.primes"], apart := false, laid := [("beagle/residue.primes", laid_beagle_residue_primes)] }
def ResidueFermatSaid : Prop := residueFermatRow.holds Tryd.pinned (OpenSpec.ofChange residueFermatSpec)

/-- ITS FALSE NEIGHBOUR: 'it returns false'. Refute it at one input. -/
def residueFermatWrong : ChangeSpec := { name := "residueFermat", fn := fun _ => fun
  | [d1, d2] => { results := [.lit (.bool false)], args := [d1, d2] }
  | _ => none }
def ResidueFermatWrongFalsely : Prop := residueFermatRow.holds Tryd.pinned (OpenSpec.ofChange residueFermatWrong)

/- THE SECOND FORM. 'bulk': how many values and letters a reading holds, each counted each time it is reached (what is shared counts as often as it is met; a slice's spare places count too). A statement '..UptoSaid' is the law's where the arguments, and the package variables that the reading takes, are together of bulk at most 1048576: NARROWER than '..Said'. Prove '..Said' where nothing that the law and all that it calls make is longer than what came in: it says more and counts as full. Else prove '..UptoSaid'. A law counts once. -/
mutual
def uptoBulk {H : Type} : DataW H → Nat
  | .lit (.string bytes) => bytes.length + 1
  | .lit _ => 1
  | .nil => 1
  | .ptr d => uptoBulk d + 1
  | .slice elems spare => uptoBulkAll elems + uptoBulkAll spare + 1
  | .agg parts => uptoBulkAll parts + 1
  | .iface _ d => uptoBulk d + 1
  | .map entries => uptoBulkEntries entries + 1
  | .held _ => 1
def uptoBulkAll {H : Type} : List (DataW H) → Nat
  | [] => 0
  | d :: r => uptoBulk d + uptoBulkAll r
def uptoBulkEntries {H : Type} : List (Lit × DataW H) → Nat
  | [] => 0
  | x :: r => uptoBulkEntry x + uptoBulkEntries r
def uptoBulkEntry {H : Type} : Lit × DataW H → Nat
  | (.string bytes, d) => bytes.length + uptoBulk d + 1
  | (_, d) => uptoBulk d + 1
 end
def uptoSmall : (H : Type) → List (DataW H) → Bool := fun _ ds => decide (uptoBulkAll ds ≤ 1048576)
def OpenSpec.upto (s : _root_.Go.ChangeSpec) : _root_.Go.OpenSpec := { _root_.Go.OpenSpec.ofChange s with cond := some uptoSmall }

/-- 'beaglelaw01.ResidueAll', WHERE WHAT IT READS IS OF BULK AT MOST 1048576: true; the input reads as it did. -/
def residueAllUptoRow : OpenClaim := { program := "ytfhkpkonabllaaadoor", sum := "0ce7e7fc3f73577fa4f2d7ffa33974c3635ec70f56d9cc8a9af1017fa940b1ae", func := "beagle/beaglelaw01.ResidueAll", spec := "residueAll", named := ["beagle/residue.primes"], apart := false, laid := [("beagle/residue.primes", laid_beagle_residue_primes)], narrowed := true }
def ResidueAllUptoSaid : Prop := residueAllUptoRow.holds Tryd.pinned (OpenSpec.upto residueAllSpec)

/-- 'beaglelaw01.ResiduePowers', WHERE WHAT IT READS IS OF BULK AT MOST 1048576: true; the input reads as it did. -/
def residuePowersUptoRow : OpenClaim := { program := "ytfhkpkonabllaaadoor", sum := "0ce7e7fc3f73577fa4f2d7ffa33974c3635ec70f56d9cc8a9af1017fa940b1ae", func := "beagle/beaglelaw01.ResiduePowers", spec := "residuePowers", recurses := true, named := ["beagle/residue.primes"], apart := false, laid := [("beagle/residue.primes", laid_beagle_residue_primes)], narrowed := true }
def ResiduePowersUptoSaid : Prop := residuePowersUptoRow.holds Tryd.pinned (OpenSpec.upto residuePowersSpec)

/-- 'beaglelaw01.ResidueInverses', WHERE WHAT IT READS IS OF BULK AT MOST 1048576: true; the input reads as it did. -/
def residueInversesUptoRow : OpenClaim := { program := "ytfhkpkonabllaaadoor", sum := "0ce7e7fc3f73577fa4f2d7ffa33974c3635ec70f56d9cc8a9af1017fa940b1ae", func := "beagle/beaglelaw01.ResidueInverses", spec := "residueInverses", named := ["beagle/residue.primes"], apart := false, laid := [("beagle/residue.primes", laid_beagle_residue_primes)], narrowed := true }
def ResidueInversesUptoSaid : Prop := residueInversesUptoRow.holds Tryd.pinned (OpenSpec.upto residueInversesSpec)

/-- 'beaglelaw01.ResidueRoots', WHERE WHAT IT READS IS OF BULK AT MOST 1048576: true; the input reads as it did. -/
def residueRootsUptoRow : OpenClaim := { program := "ytfhkpkonabllaaadoor", sum := "0ce7e7fc3f73577fa4f2d7ffa33974c3635ec70f56d9cc8a9af1017fa940b1ae", func := "beagle/beaglelaw01.ResidueRoots", spec := "residueRoots", recurses := true, named := ["beagle/residue.primes"], apart := false, laid := [("beagle/residue.primes", laid_beagle_residue_primes)], narrowed := true }
def ResidueRootsUptoSaid : Prop := residueRootsUptoRow.holds Tryd.pinned (OpenSpec.upto residueRootsSpec)

/-- 'beaglelaw01.ResidueOrders', WHERE WHAT IT READS IS OF BULK AT MOST 1048576: true; the input reads as it did. -/
def residueOrdersUptoRow : OpenClaim := { program := "ytfhkpkonabllaaadoor", sum := "0ce7e7fc3f73577fa4f2d7ffa33974c3635ec70f56d9cc8a9af1017fa940b1ae", func := "beagle/beaglelaw01.ResidueOrders", spec := "residueOrders", unfollowed := true, recurses := true, named := ["beagle/residue.primes"], apart := false, laid := [("beagle/residue.primes", laid_beagle_residue_primes)], narrowed := true }
def ResidueOrdersUptoSaid : Prop := residueOrdersUptoRow.holds Tryd.pinned (OpenSpec.upto residueOrdersSpec)

/-- 'beaglelaw01.ResidueFermat', WHERE WHAT IT READS IS OF BULK AT MOST 1048576: true; the input reads as it did. -/
def residueFermatUptoRow : OpenClaim := { program := "ytfhkpkonabllaaadoor", sum := "0ce7e7fc3f73577fa4f2d7ffa33974c3635ec70f56d9cc8a9af1017fa940b1ae", func := "beagle/beaglelaw01.ResidueFermat", spec := "residueFermat", named := ["beagle/residue.primes"], apart := false, laid := [("beagle/residue.primes", laid_beagle_residue_primes)], narrowed := true }
def ResidueFermatUptoSaid : Prop := residueFermatUptoRow.holds Tryd.pinned (OpenSpec.upto residueFermatSpec)

end Rows
end Go.Proofs.YtfhkpkonabllaaaDoor
