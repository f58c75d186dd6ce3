/-
  NARROWER THAN 'FOR EVERY INPUT', by the rows' own cells (each row's printed sentence says how): NttLogs: laid · NttForward: laid · NttInverse: laid · NttBack: laid · NttCyclic: laid · NttSums: laid · NttShifts: laid.
  DERIVED. THE GIVEN ROWS OF THIS SEAT. 7 by the template 'for every input the law returns true; each argument reads behind the call as it read before'; 0 by the template 'total and deterministic' (their statements: YtegbkicbmdkpiaaDoorTotals.lean).
  GIVEN WITH THE SEED: the statements are not yours to turn. If you find one false, say at which input.
  Laid BY PROGRAM, IN A SANDBOX (cutbox-rows.mjs): the forced cells as the released guide's own fill.sh prints them over the translation 6af506c5b5844909… (all of the seat's roots in one cut). By AI agents, Wed Nov 11 2026. No macro, syntax, notation, axiom, sorry.
-/
import Derived.Test.YtegbkicbmdkpiaaDoorChecked
import GoSem.Claim
import GoSem.ClaimJoined
import GoSem.ClaimMapViews
import Derived.JoinedTies
import Derived.KernelRfl
namespace Go.Proofs.YtegbkicbmdkpiaaDoor
/- THE CELL 'sum', in the pinned program and in every row, IS THE sha256 OF THE DUMP (.gsa) THAT YtegbkicbmdkpiaaDoorProg.lean LOADS. Nothing in Lean hashes anything: it is a label: what it is worth is what the hold of that sum in a sandbox is worth. -/
noncomputable def Tryd.pinned : Pinned := { name := "ytegbkicbmdkpiaadoor", sum := "6af506c5b5844909705d2a5302667a8a459362f06a1340abfd0a5e670274908e", checked := Tryd.checked }
namespace Rows
def none {H : Type} : Left H := { results := [], args := [] }

/- WHAT THE LISTED PACKAGE-LEVEL VARIABLES READ AS WHEN THE CALL BEGINS. Each datum BY PROGRAM (the guide's laid-datum.mjs) off the statement by which the dump's own 'gosem.cut.vars' lays the variable. In a bare row this is a premise. The card (YtegbkicbmdkpiaaDoorCards.lean) ties it to the program's text. -/
def laid_beagle_residue_primes {H : Type} : DataW H := .agg [.lit (.int .u64 998244353), .lit (.int .u64 167772161), .lit (.int .u64 469762049)]

/-- 'beaglelaw02.NttLogs': WHATEVER THE INPUT: true; the input reads as it did. -/
def nttLogsSpec : ChangeSpec := { name := "nttLogs", fn := fun _ => fun
  | [d] => { results := [.lit (.bool true)], args := [d] }
  | _ => none }
def nttLogsRow : OpenClaim := { program := "ytegbkicbmdkpiaadoor", sum := "6af506c5b5844909705d2a5302667a8a459362f06a1340abfd0a5e670274908e", func := "beagle/beaglelaw02.NttLogs", spec := "nttLogs", recurses := true, named := ["beagle/residue.primes"], apart := false, laid := [("beagle/residue.primes", laid_beagle_residue_primes)] }
def NttLogsSaid : Prop := nttLogsRow.holds Tryd.pinned (OpenSpec.ofChange nttLogsSpec)

/-- ITS FALSE NEIGHBOUR: 'it returns false'. Refute it at one input. -/
def nttLogsWrong : ChangeSpec := { name := "nttLogs", fn := fun _ => fun
  | [d] => { results := [.lit (.bool false)], args := [d] }
  | _ => none }
def NttLogsWrongFalsely : Prop := nttLogsRow.holds Tryd.pinned (OpenSpec.ofChange nttLogsWrong)

/-- 'beaglelaw02.NttForward': WHATEVER THE INPUT: true; the input reads as it did. -/
def nttForwardSpec : ChangeSpec := { name := "nttForward", fn := fun _ => fun
  | [d1, d2] => { results := [.lit (.bool true)], args := [d1, d2] }
  | _ => none }
def nttForwardRow : OpenClaim := { program := "ytegbkicbmdkpiaadoor", sum := "6af506c5b5844909705d2a5302667a8a459362f06a1340abfd0a5e670274908e", func := "beagle/beaglelaw02.NttForward", spec := "nttForward", recurses := true, named := ["beagle/residue.primes"], apart := false, laid := [("beagle/residue.primes", laid_beagle_residue_primes)] }
def NttForwardSaid : Prop := nttForwardRow.holds Tryd.pinned (OpenSpec.ofChange nttForwardSpec)

/-- ITS FALSE NEIGHBOUR: 'it returns false'. Refute it at one input. -/
def nttForwardWrong : ChangeSpec := { name := "nttForward", fn := fun _ => fun
  | [d1, d2] => { results := [.lit (.bool false)], args := [d1, d2] }
  | _ => none }
def NttForwardWrongFalsely : Prop := nttForwardRow.holds Tryd.pinned (OpenSpec.ofChange nttForwardWrong)

/-- 'beaglelaw02.NttInverse': WHATEVER THE INPUT: true; the input reads as it did. -/
def nttInverseSpec : ChangeSpec := { name := "nttInverse", fn := fun _ => fun
  | [d1, d2] => { results := [.lit (.bool true)], args := [d1, d2] }
  | _ => none }
def nttInverseRow : OpenClaim := { program := "ytegbkicbmdkpiaadoor", sum := "6af506c5b5844909705d2a5302667a8a459362f06a1340abfd0a5e670274908e", func := "beagle/beaglelaw02.NttInverse", spec := "nttInverse", recurses := true, named := ["beagle/residue.primes"], apart := false, laid := [("beagle/residue.primes", laid_beagle_residue_primes)] }
def NttInverseSaid : Prop := nttInverseRow.holds Tryd.pinned (OpenSpec.ofChange nttInverseSpec)

/-- ITS FALSE NEIGHBOUR: 'it returns false'. Refute it at one input. -/
def nttInverseWrong : ChangeSpec := { name := "nttInverse", fn := fun _ => fun
  | [d1, d2] => { results := [.lit (.bool false)], args := [d1, d2] }
  | _ => none }
def NttInverseWrongFalsely : Prop := nttInverseRow.holds Tryd.pinned (OpenSpec.ofChange nttInverseWrong)

/-- 'beaglelaw02.NttBack': WHATEVER THE INPUT: true; the input reads as it did. -/
def nttBackSpec : ChangeSpec := { name := "nttBack", fn := fun _ => fun
  | [d1, d2] => { results := [.lit (.bool true)], args := [d1, d2] }
  | _ => none }
def nttBackRow : OpenClaim := { program := "ytegbkicbmdkpiaadoor", sum := "6af506c5b5844909705d2a5302667a8a459362f06a1340abfd0a5e670274908e", func := "beagle/beaglelaw02.NttBack", spec := "nttBack", recurses := true, named := ["beagle/residue.primes"], apart := false, laid := [("beagle/residue.primes", laid_beagle_residue_primes)] }
def NttBackSaid : Prop := nttBackRow.holds Tryd.pinned (OpenSpec.ofChange nttBackSpec)

/-- ITS FALSE NEIGHBOUR: 'it returns false'. Refute it at one input. -/
def nttBackWrong : ChangeSpec := { name := "nttBack", fn := fun _ => fun
  | [d1, d2] => { results := [.lit (.bool false)], args := [d1, d2] }
  | _ => none }
def NttBackWrongFalsely : Prop := nttBackRow.holds Tryd.pinned (OpenSpec.ofChange nttBackWrong)

/-- 'beaglelaw02.NttCyclic': WHATEVER THE INPUT: true; the input reads as it did. -/
def nttCyclicSpec : ChangeSpec := { name := "nttCyclic", fn := fun _ => fun
  | [d1, d2, d3] => { results := [.lit (.bool true)], args := [d1, d2, d3] }
  | _ => none }
def nttCyclicRow : OpenClaim := { program := "ytegbkicbmdkpiaadoor", sum := "6af506c5b5844909705d2a5302667a8a459362f06a1340abfd0a5e670274908e", func := "beagle/beaglelaw02.NttCyclic", spec := "nttCyclic", recurses := true, named := ["beagle/residue.primes"], apart := false, laid := [("beagle/residue.primes", laid_beagle_residue_primes)] }
def NttCyclicSaid : Prop := nttCyclicRow.holds Tryd.pinned (OpenSpec.ofChange nttCyclicSpec)

/-- ITS FALSE NEIGHBOUR: 'it returns false'. Refute it at one input. -/
def nttCyclicWrong : ChangeSpec := { name := "nttCyclic", fn := fun _ => fun
  | [d1, d2, d3] => { results := [.lit (.bool false)], args := [d1, d2, d3] }
  | _ => none }
def NttCyclicWrongFalsely : Prop := nttCyclicRow.holds Tryd.pinned (OpenSpec.ofChange nttCyclicWrong)

/-- 'beaglelaw02.NttSums': WHATEVER THE INPUT: true; the input reads as it did. -/
def nttSumsSpec : ChangeSpec := { name := "nttSums", fn := fun _ => fun
  | [d1, d2, d3] => { results := [.lit (.bool true)], args := [d1, d2, d3] }
  | _ => none }
def nttSumsRow : OpenClaim := { program := "ytegbkicbmdkpiaadoor", sum := "6af506c5b5844909705d2a5302667a8a459362f06a1340abfd0a5e670274908e", func := "beagle/beaglelaw02.NttSums", spec := "nttSums", recurses := true, named := ["beagle/residue.primes"], apart := false, laid := [("beagle/residue.primes", laid_beagle_residue_primes)] }
def NttSumsSaid : Prop := nttSumsRow.holds Tryd.pinned (OpenSpec.ofChange nttSumsSpec)

/-- ITS FALSE NEIGHBOUR: 'it returns false'. Refute it at one input. -/
def nttSumsWrong : ChangeSpec := { name := "nttSums", fn := fun _ => fun
  | [d1, d2, d3] => { results := [.lit (.bool false)], args := [d1, d2, d3] }
  | _ => none }
def NttSumsWrongFalsely : Prop := nttSumsRow.holds Tryd.pinned (OpenSpec.ofChange nttSumsWrong)

/-- 'beaglelaw02.NttShifts': WHATEVER THE INPUT: true; the input reads as it did. -/
def nttShiftsSpec : ChangeSpec := { name := "nttShifts", fn := fun _ => fun
  | [d1, d2] => { results := [.lit (.bool true)], args := [d1, d2] }
  | _ => none }
def nttShiftsRow : OpenClaim := { program := "ytegbkicbmdkpiaadoor", sum := "6af506c5b5844909705d2a5302667a8a459362f06a1340abfd0a5e670274908e", func := "beagle/beaglelaw02.NttShifts", spec := "nttShifts", recurses := true, named := ["beagle/residue.primes"], apart := false, laid := [("beagle/residue.primes", laid_beagle_residue_primes)] }
def NttShiftsSaid : Prop := nttShiftsRow.holds Tryd.pinned (OpenSpec.ofChange nttShiftsSpec)

/-- ITS FALSE NEIGHBOUR: 'it returns false'. Refute it at one input. -/
def nttShiftsWrong : ChangeSpec := { name := "nttShifts", fn := fun _ => fun
  | [d1, d2] => { results := [.lit (.bool false)], args := [d1, d2] }
  | _ => none }
def NttShiftsWrongFalsely : Prop := nttShiftsRow.holds Tryd.pinned (OpenSpec.ofChange nttShiftsWrong)

/- THE SECOND FORM. 'bulk': how many values and letters a reading holds, each counted each time it is reached (what is shared counts as often as it is met; a slice's spare places count too). A statement '..UptoSaid' is the law's where the arguments, and the package variables that the reading takes, are together of bulk at most 1048576: NARROWER than '..Said'. Prove '..Said' where nothing that the law and all that it calls make is longer than what came in: it says more and counts as full. Else prove '..UptoSaid'. A law counts once. -/
mutual
def uptoBulk {H : Type} : DataW H → Nat
  | .lit (.string bytes) => bytes.length + 1
  | .lit _ => 1
  | .nil => 1
  | .ptr d => uptoBulk d + 1
  | .slice elems spare => uptoBulkAll elems + uptoBulkAll spare + 1
  | .agg parts => uptoBulkAll parts + 1
  | .iface _ d => uptoBulk d + 1
  | .map entries => uptoBulkEntries entries + 1
  | .held _ => 1
def uptoBulkAll {H : Type} : List (DataW H) → Nat
  | [] => 0
  | d :: r => uptoBulk d + uptoBulkAll r
def uptoBulkEntries {H : Type} : List (Lit × DataW H) → Nat
  | [] => 0
  | x :: r => uptoBulkEntry x + uptoBulkEntries r
def uptoBulkEntry {H : Type} : Lit × DataW H → Nat
  | (.string bytes, d) => bytes.length + uptoBulk d + 1
  | (_, d) => uptoBulk d + 1
 end
def uptoSmall : (H : Type) → List (DataW H) → Bool := fun _ ds => decide (uptoBulkAll ds ≤ 1048576)
def OpenSpec.upto (s : _root_.Go.ChangeSpec) : _root_.Go.OpenSpec := { _root_.Go.OpenSpec.ofChange s with cond := some uptoSmall }

/-- 'beaglelaw02.NttLogs', WHERE WHAT IT READS IS OF BULK AT MOST 1048576: true; the input reads as it did. -/
def nttLogsUptoRow : OpenClaim := { program := "ytegbkicbmdkpiaadoor", sum := "6af506c5b5844909705d2a5302667a8a459362f06a1340abfd0a5e670274908e", func := "beagle/beaglelaw02.NttLogs", spec := "nttLogs", recurses := true, named := ["beagle/residue.primes"], apart := false, laid := [("beagle/residue.primes", laid_beagle_residue_primes)], narrowed := true }
def NttLogsUptoSaid : Prop := nttLogsUptoRow.holds Tryd.pinned (OpenSpec.upto nttLogsSpec)

/-- 'beaglelaw02.NttForward', WHERE WHAT IT READS IS OF BULK AT MOST 1048576: true; the input reads as it did. -/
def nttForwardUptoRow : OpenClaim := { program := "ytegbkicbmdkpiaadoor", sum := "6af506c5b5844909705d2a5302667a8a459362f06a1340abfd0a5e670274908e", func := "beagle/beaglelaw02.NttForward", spec := "nttForward", recurses := true, named := ["beagle/residue.primes"], apart := false, laid := [("beagle/residue.primes", laid_beagle_residue_primes)], narrowed := true }
def NttForwardUptoSaid : Prop := nttForwardUptoRow.holds Tryd.pinned (OpenSpec.upto nttForwardSpec)

/-- 'beaglelaw02.NttInverse', WHERE WHAT IT READS IS OF BULK AT MOST 1048576: true; the input reads as it did. -/
def nttInverseUptoRow : OpenClaim := { program := "ytegbkicbmdkpiaadoor", sum := "6af506c5b5844909705d2a5302667a8a459362f06a1340abfd0a5e670274908e", func := "beagle/beaglelaw02.NttInverse", spec := "nttInverse", recurses := true, named := ["beagle/residue.primes"], apart := false, laid := [("beagle/residue.primes", laid_beagle_residue_primes)], narrowed := true }
def NttInverseUptoSaid : Prop := nttInverseUptoRow.holds Tryd.pinned (OpenSpec.upto nttInverseSpec)

/-- 'beaglelaw02.NttBack', WHERE WHAT IT READS IS OF BULK AT MOST 1048576: true; the input reads as it did. -/
def nttBackUptoRow : OpenClaim := { program := "ytegbkicbmdkpiaadoor", sum := "6af506c5b5844909705d2a5302667a8a459362f06a1340abfd0a5e670274908e", func := "beagle/beaglelaw02.NttBack", spec := "nttBack", recurses := true, named := ["beagle/residue.primes"], apart := false, laid := [("beagle/residue.primes", laid_beagle_residue_primes)], narrowed := true }
def NttBackUptoSaid : Prop := nttBackUptoRow.holds Tryd.pinned (OpenSpec.upto nttBackSpec)

/-- 'beaglelaw02.NttCyclic', WHERE WHAT IT READS IS OF BULK AT MOST 1048576: true; the input reads as it did. -/
def nttCyclicUptoRow : OpenClaim := { program := "ytegbkicbmdkpiaadoor", sum := "6af506c5b5844909705d2a5302667a8a459362f06a1340abfd0a5e670274908e", func := "beagle/beaglelaw02.NttCyclic", spec := "nttCyclic", recurses := true, named := ["beagle/residue.primes"], apart := false, laid := [("beagle/residue.primes", laid_beagle_residue_primes)], narrowed := true }
def NttCyclicUptoSaid : Prop := nttCyclicUptoRow.holds Tryd.pinned (OpenSpec.upto nttCyclicSpec)

/-- 'beaglelaw02.NttSums', WHERE WHAT IT READS IS OF BULK AT MOST 1048576: true; the input reads as it did. -/
def nttSumsUptoRow : OpenClaim := { program := "ytegbkicbmdkpiaadoor", sum := "6af506c5b5844909705d2a5302667a8a459362f06a1340abfd0a5e670274908e", func := "beagle/beaglelaw02.NttSums", spec := "nttSums", recurses := true, named := ["beagle/residue.primes"], apart := false, laid := [("beagle/residue.primes", laid_beagle_residue_primes)], narrowed := true }
def NttSumsUptoSaid : Prop := nttSumsUptoRow.holds Tryd.pinned (OpenSpec.upto nttSumsSpec)

/-- 'beaglelaw02.NttShifts', WHERE WHAT IT READS IS OF BULK AT MOST 1048576: true; the input reads as it did. -/
def nttShiftsUptoRow : OpenClaim := { program := "ytegbkicbmdkpiaadoor", sum := "6af506c5b5844909705d2a5302667a8a459362f06a1340abfd0a5e670274908e", func := "beagle/beaglelaw02.NttShifts", spec := "nttShifts", recurses := true, named := ["beagle/residue.primes"], apart := false, laid := [("beagle/residue.primes", laid_beagle_residue_primes)], narrowed := true }
def NttShiftsUptoSaid : Prop := nttShiftsUptoRow.holds Tryd.pinned (OpenSpec.upto nttShiftsSpec)

end Rows
end Go.Proofs.YtegbkicbmdkpiaaDoor
