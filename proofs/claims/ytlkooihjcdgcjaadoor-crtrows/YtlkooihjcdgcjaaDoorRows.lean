/-
  NARROWER THAN 'FOR EVERY INPUT', by the rows' own cells (each row's printed sentence says how): CrtMixed: laid · CrtJoins: laid · CrtBack: laid · CrtApart: laid · CrtSums: laid · CrtRows: laid.
  DERIVED. THE GIVEN ROWS OF THIS SEAT. 6 by the template 'for every input the law returns true; each argument reads behind the call as it read before'; 0 by the template 'total and deterministic' (their statements: YtlkooihjcdgcjaaDoorTotals.lean).
  GIVEN WITH THE SEED: the statements are not yours to turn. If you find one false, say at which input.
  Laid BY PROGRAM, IN A SANDBOX (cutbox-rows.mjs): the forced cells as the released guide's own fill.sh prints them over the translation 5d7f9aefa45dee0c… (all of the seat's roots in one cut). By AI agents, Wed Nov 11 2026. No macro, syntax, notation, axiom, sorry.
-/
import Derived.Test.YtlkooihjcdgcjaaDoorChecked
import GoSem.Claim
import GoSem.ClaimJoined
import GoSem.ClaimMapViews
import Derived.JoinedTies
import Derived.KernelRfl
namespace Go.Proofs.YtlkooihjcdgcjaaDoor
/- THE CELL 'sum', in the pinned program and in every row, IS THE sha256 OF THE DUMP (.gsa) THAT YtlkooihjcdgcjaaDoorProg.lean LOADS. Nothing in Lean hashes anything: it is a label: what it is worth is what the hold of that sum in a sandbox is worth. -/
noncomputable def Tryd.pinned : Pinned := { name := "ytlkooihjcdgcjaadoor", sum := "5d7f9aefa45dee0c5860b8f4a1c81fc0857442a25c1f78720b1140aafce8ac20", checked := Tryd.checked }
namespace Rows
def none {H : Type} : Left H := { results := [], args := [] }

/- WHAT THE LISTED PACKAGE-LEVEL VARIABLES READ AS WHEN THE CALL BEGINS. Each datum BY PROGRAM (the guide's laid-datum.mjs) off the statement by which the dump's own 'gosem.cut.vars' lays the variable. In a bare row this is a premise. The card (YtlkooihjcdgcjaaDoorCards.lean) ties it to the program's text. -/
def laid_beagle_residue_primes {H : Type} : DataW H := .agg [.lit (.int .u64 998244353), .lit (.int .u64 167772161), .lit (.int .u64 469762049)]

/-- 'beaglelaw03.CrtMixed': WHATEVER THE INPUT: true; the input reads as it did. -/
def crtMixedSpec : ChangeSpec := { name := "crtMixed", fn := fun _ => fun
  | [d] => { results := [.lit (.bool true)], args := [d] }
  | _ => none }
def crtMixedRow : OpenClaim := { program := "ytlkooihjcdgcjaadoor", sum := "5d7f9aefa45dee0c5860b8f4a1c81fc0857442a25c1f78720b1140aafce8ac20", func := "beagle/beaglelaw03.CrtMixed", spec := "crtMixed", inPlace := ["math/bits.Add64"], named := ["beagle/residue.primes"], apart := false, laid := [("beagle/residue.primes", laid_beagle_residue_primes)] }
def CrtMixedSaid : Prop := crtMixedRow.holds Tryd.pinned (OpenSpec.ofChange crtMixedSpec)

/-- ITS FALSE NEIGHBOUR: 'it returns false'. Refute it at one input. -/
def crtMixedWrong : ChangeSpec := { name := "crtMixed", fn := fun _ => fun
  | [d] => { results := [.lit (.bool false)], args := [d] }
  | _ => none }
def CrtMixedWrongFalsely : Prop := crtMixedRow.holds Tryd.pinned (OpenSpec.ofChange crtMixedWrong)

/-- 'beaglelaw03.CrtJoins': WHATEVER THE INPUT: true; the input reads as it did. -/
def crtJoinsSpec : ChangeSpec := { name := "crtJoins", fn := fun _ => fun
  | [d] => { results := [.lit (.bool true)], args := [d] }
  | _ => none }
def crtJoinsRow : OpenClaim := { program := "ytlkooihjcdgcjaadoor", sum := "5d7f9aefa45dee0c5860b8f4a1c81fc0857442a25c1f78720b1140aafce8ac20", func := "beagle/beaglelaw03.CrtJoins", spec := "crtJoins", inPlace := ["math/bits.Add64"], named := ["beagle/residue.primes"], apart := false, laid := [("beagle/residue.primes", laid_beagle_residue_primes)] }
def CrtJoinsSaid : Prop := crtJoinsRow.holds Tryd.pinned (OpenSpec.ofChange crtJoinsSpec)

/-- ITS FALSE NEIGHBOUR: 'it returns false'. Refute it at one input. -/
def crtJoinsWrong : ChangeSpec := { name := "crtJoins", fn := fun _ => fun
  | [d] => { results := [.lit (.bool false)], args := [d] }
  | _ => none }
def CrtJoinsWrongFalsely : Prop := crtJoinsRow.holds Tryd.pinned (OpenSpec.ofChange crtJoinsWrong)

/-- 'beaglelaw03.CrtBack': WHATEVER THE INPUT: true; the input reads as it did. -/
def crtBackSpec : ChangeSpec := { name := "crtBack", fn := fun _ => fun
  | [d1, d2] => { results := [.lit (.bool true)], args := [d1, d2] }
  | _ => none }
def crtBackRow : OpenClaim := { program := "ytlkooihjcdgcjaadoor", sum := "5d7f9aefa45dee0c5860b8f4a1c81fc0857442a25c1f78720b1140aafce8ac20", func := "beagle/beaglelaw03.CrtBack", spec := "crtBack", inPlace := ["math/bits.Add64"], named := ["beagle/residue.primes"], apart := false, laid := [("beagle/residue.primes", laid_beagle_residue_primes)] }
def CrtBackSaid : Prop := crtBackRow.holds Tryd.pinned (OpenSpec.ofChange crtBackSpec)

/-- ITS FALSE NEIGHBOUR: 'it returns false'. Refute it at one input. -/
def crtBackWrong : ChangeSpec := { name := "crtBack", fn := fun _ => fun
  | [d1, d2] => { results := [.lit (.bool false)], args := [d1, d2] }
  | _ => none }
def CrtBackWrongFalsely : Prop := crtBackRow.holds Tryd.pinned (OpenSpec.ofChange crtBackWrong)

/-- 'beaglelaw03.CrtApart': WHATEVER THE INPUT: true; the input reads as it did. -/
def crtApartSpec : ChangeSpec := { name := "crtApart", fn := fun _ => fun
  | [d1, d2] => { results := [.lit (.bool true)], args := [d1, d2] }
  | _ => none }
def crtApartRow : OpenClaim := { program := "ytlkooihjcdgcjaadoor", sum := "5d7f9aefa45dee0c5860b8f4a1c81fc0857442a25c1f78720b1140aafce8ac20", func := "beagle/beaglelaw03.CrtApart", spec := "crtApart", inPlace := ["math/bits.Add64"], named := ["beagle/residue.primes"], apart := false, laid := [("beagle/residue.primes", laid_beagle_residue_primes)] }
def CrtApartSaid : Prop := crtApartRow.holds Tryd.pinned (OpenSpec.ofChange crtApartSpec)

/-- ITS FALSE NEIGHBOUR: 'it returns false'. Refute it at one input. -/
def crtApartWrong : ChangeSpec := { name := "crtApart", fn := fun _ => fun
  | [d1, d2] => { results := [.lit (.bool false)], args := [d1, d2] }
  | _ => none }
def CrtApartWrongFalsely : Prop := crtApartRow.holds Tryd.pinned (OpenSpec.ofChange crtApartWrong)

/-- 'beaglelaw03.CrtSums': WHATEVER THE INPUT: true; the input reads as it did. -/
def crtSumsSpec : ChangeSpec := { name := "crtSums", fn := fun _ => fun
  | [d1, d2] => { results := [.lit (.bool true)], args := [d1, d2] }
  | _ => none }
def crtSumsRow : OpenClaim := { program := "ytlkooihjcdgcjaadoor", sum := "5d7f9aefa45dee0c5860b8f4a1c81fc0857442a25c1f78720b1140aafce8ac20", func := "beagle/beaglelaw03.CrtSums", spec := "crtSums", inPlace := ["math/bits.Add64"], named := ["beagle/residue.primes"], apart := false, laid := [("beagle/residue.primes", laid_beagle_residue_primes)] }
def CrtSumsSaid : Prop := crtSumsRow.holds Tryd.pinned (OpenSpec.ofChange crtSumsSpec)

/-- ITS FALSE NEIGHBOUR: 'it returns false'. Refute it at one input. -/
def crtSumsWrong : ChangeSpec := { name := "crtSums", fn := fun _ => fun
  | [d1, d2] => { results := [.lit (.bool false)], args := [d1, d2] }
  | _ => none }
def CrtSumsWrongFalsely : Prop := crtSumsRow.holds Tryd.pinned (OpenSpec.ofChange crtSumsWrong)

/-- 'beaglelaw03.CrtRows': WHATEVER THE INPUT: true; the input reads as it did. -/
def crtRowsSpec : ChangeSpec := { name := "crtRows", fn := fun _ => fun
  | [d1, d2, d3] => { results := [.lit (.bool true)], args := [d1, d2, d3] }
  | _ => none }
def crtRowsRow : OpenClaim := { program := "ytlkooihjcdgcjaadoor", sum := "5d7f9aefa45dee0c5860b8f4a1c81fc0857442a25c1f78720b1140aafce8ac20", func := "beagle/beaglelaw03.CrtRows", spec := "crtRows", inPlace := ["math/bits.Add64"], named := ["beagle/residue.primes"], apart := false, laid := [("beagle/residue.primes", laid_beagle_residue_primes)] }
def CrtRowsSaid : Prop := crtRowsRow.holds Tryd.pinned (OpenSpec.ofChange crtRowsSpec)

/-- ITS FALSE NEIGHBOUR: 'it returns false'. Refute it at one input. -/
def crtRowsWrong : ChangeSpec := { name := "crtRows", fn := fun _ => fun
  | [d1, d2, d3] => { results := [.lit (.bool false)], args := [d1, d2, d3] }
  | _ => none }
def CrtRowsWrongFalsely : Prop := crtRowsRow.holds Tryd.pinned (OpenSpec.ofChange crtRowsWrong)

/- THE SECOND FORM. 'bulk': how many values and letters a reading holds, each counted each time it is reached (what is shared counts as often as it is met; a slice's spare places count too). A statement '..UptoSaid' is the law's where the arguments, and the package variables that the reading takes, are together of bulk at most 1048576: NARROWER than '..Said'. Prove '..Said' where nothing that the law and all that it calls make is longer than what came in: it says more and counts as full. Else prove '..UptoSaid'. A law counts once. -/
mutual
def uptoBulk {H : Type} : DataW H → Nat
  | .lit (.string bytes) => bytes.length + 1
  | .lit _ => 1
  | .nil => 1
  | .ptr d => uptoBulk d + 1
  | .slice elems spare => uptoBulkAll elems + uptoBulkAll spare + 1
  | .agg parts => uptoBulkAll parts + 1
  | .iface _ d => uptoBulk d + 1
  | .map entries => uptoBulkEntries entries + 1
  | .held _ => 1
def uptoBulkAll {H : Type} : List (DataW H) → Nat
  | [] => 0
  | d :: r => uptoBulk d + uptoBulkAll r
def uptoBulkEntries {H : Type} : List (Lit × DataW H) → Nat
  | [] => 0
  | x :: r => uptoBulkEntry x + uptoBulkEntries r
def uptoBulkEntry {H : Type} : Lit × DataW H → Nat
  | (.string bytes, d) => bytes.length + uptoBulk d + 1
  | (_, d) => uptoBulk d + 1
 end
def uptoSmall : (H : Type) → List (DataW H) → Bool := fun _ ds => decide (uptoBulkAll ds ≤ 1048576)
def OpenSpec.upto (s : _root_.Go.ChangeSpec) : _root_.Go.OpenSpec := { _root_.Go.OpenSpec.ofChange s with cond := some uptoSmall }

/-- 'beaglelaw03.CrtMixed', WHERE WHAT IT READS IS OF BULK AT MOST 1048576: true; the input reads as it did. -/
def crtMixedUptoRow : OpenClaim := { program := "ytlkooihjcdgcjaadoor", sum := "5d7f9aefa45dee0c5860b8f4a1c81fc0857442a25c1f78720b1140aafce8ac20", func := "beagle/beaglelaw03.CrtMixed", spec := "crtMixed", inPlace := ["math/bits.Add64"], named := ["beagle/residue.primes"], apart := false, laid := [("beagle/residue.primes", laid_beagle_residue_primes)], narrowed := true }
def CrtMixedUptoSaid : Prop := crtMixedUptoRow.holds Tryd.pinned (OpenSpec.upto crtMixedSpec)

/-- 'beaglelaw03.CrtJoins', WHERE WHAT IT READS IS OF BULK AT MOST 1048576: true; the input reads as it did. -/
def crtJoinsUptoRow : OpenClaim := { program := "ytlkooihjcdgcjaadoor", sum := "5d7f9aefa45dee0c5860b8f4a1c81fc0857442a25c1f78720b1140aafce8ac20", func := "beagle/beaglelaw03.CrtJoins", spec := "crtJoins", inPlace := ["math/bits.Add64"], named := ["beagle/residue.primes"], apart := false, laid := [("beagle/residue.primes", laid_beagle_residue_primes)], narrowed := true }
def CrtJoinsUptoSaid : Prop := crtJoinsUptoRow.holds Tryd.pinned (OpenSpec.upto crtJoinsSpec)

/-- 'beaglelaw03.CrtBack', WHERE WHAT IT READS IS OF BULK AT MOST 1048576: true; the input reads as it did. -/
def crtBackUptoRow : OpenClaim := { program := "ytlkooihjcdgcjaadoor", sum := "5d7f9aefa45dee0c5860b8f4a1c81fc0857442a25c1f78720b1140aafce8ac20", func := "beagle/beaglelaw03.CrtBack", spec := "crtBack", inPlace := ["math/bits.Add64"], named := ["beagle/residue.primes"], apart := false, laid := [("beagle/residue.primes", laid_beagle_residue_primes)], narrowed := true }
def CrtBackUptoSaid : Prop := crtBackUptoRow.holds Tryd.pinned (OpenSpec.upto crtBackSpec)

/-- 'beaglelaw03.CrtApart', WHERE WHAT IT READS IS OF BULK AT MOST 1048576: true; the input reads as it did. -/
def crtApartUptoRow : OpenClaim := { program := "ytlkooihjcdgcjaadoor", sum := "5d7f9aefa45dee0c5860b8f4a1c81fc0857442a25c1f78720b1140aafce8ac20", func := "beagle/beaglelaw03.CrtApart", spec := "crtApart", inPlace := ["math/bits.Add64"], named := ["beagle/residue.primes"], apart := false, laid := [("beagle/residue.primes", laid_beagle_residue_primes)], narrowed := true }
def CrtApartUptoSaid : Prop := crtApartUptoRow.holds Tryd.pinned (OpenSpec.upto crtApartSpec)

/-- 'beaglelaw03.CrtSums', WHERE WHAT IT READS IS OF BULK AT MOST 1048576: true; the input reads as it did. -/
def crtSumsUptoRow : OpenClaim := { program := "ytlkooihjcdgcjaadoor", sum := "5d7f9aefa45dee0c5860b8f4a1c81fc0857442a25c1f78720b1140aafce8ac20", func := "beagle/beaglelaw03.CrtSums", spec := "crtSums", inPlace := ["math/bits.Add64"], named := ["beagle/residue.primes"], apart := false, laid := [("beagle/residue.primes", laid_beagle_residue_primes)], narrowed := true }
def CrtSumsUptoSaid : Prop := crtSumsUptoRow.holds Tryd.pinned (OpenSpec.upto crtSumsSpec)

/-- 'beaglelaw03.CrtRows', WHERE WHAT IT READS IS OF BULK AT MOST 1048576: true; the input reads as it did. -/
def crtRowsUptoRow : OpenClaim := { program := "ytlkooihjcdgcjaadoor", sum := "5d7f9aefa45dee0c5860b8f4a1c81fc0857442a25c1f78720b1140aafce8ac20", func := "beagle/beaglelaw03.CrtRows", spec := "crtRows", inPlace := ["math/bits.Add64"], named := ["beagle/residue.primes"], apart := false, laid := [("beagle/residue.primes", laid_beagle_residue_primes)], narrowed := true }
def CrtRowsUptoSaid : Prop := crtRowsUptoRow.holds Tryd.pinned (OpenSpec.upto crtRowsSpec)

end Rows
end Go.Proofs.YtlkooihjcdgcjaaDoor
