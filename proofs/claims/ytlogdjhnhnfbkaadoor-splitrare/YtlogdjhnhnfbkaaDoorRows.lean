/-
  NARROWER THAN 'FOR EVERY INPUT', by the rows' own cells (each row's printed sentence says how): SplitParts: laid · SplitRare: laid · SplitCounts: laid · SplitLeast: laid · SplitText: laid.
  DERIVED. THE GIVEN ROWS OF THIS SEAT. 5 by the template 'for every input the law returns true; each argument reads behind the call as it read before'; 0 by the template 'total and deterministic' (their statements: YtlogdjhnhnfbkaaDoorTotals.lean).
  GIVEN WITH THE SEED: the statements are not yours to turn. If you find one false, say at which input.
  Laid BY PROGRAM, IN A SANDBOX (cutbox-rows.mjs): the forced cells as the released guide's own fill.sh prints them over the translation 2eae4096e0df618f… (all of the seat's roots in one cut). By AI agents, Wed Nov 11 2026. No macro, syntax, notation, axiom, sorry.
-/
import Derived.Test.YtlogdjhnhnfbkaaDoorChecked
import GoSem.Claim
import GoSem.ClaimJoined
import GoSem.ClaimMapViews
import Derived.JoinedTies
import Derived.KernelRfl
namespace Go.Proofs.YtlogdjhnhnfbkaaDoor
/- THE CELL 'sum', in the pinned program and in every row, IS THE sha256 OF THE DUMP (.gsa) THAT YtlogdjhnhnfbkaaDoorProg.lean LOADS. Nothing in Lean hashes anything: it is a label: what it is worth is what the hold of that sum in a sandbox is worth. -/
noncomputable def Tryd.pinned : Pinned := { name := "ytlogdjhnhnfbkaadoor", sum := "2eae4096e0df618fb9362c1b9d76fb01e03ba852f4c5fead7907deca0c0a72e3", checked := Tryd.checked }
namespace Rows
def none {H : Type} : Left H := { results := [], args := [] }

/- WHAT THE LISTED PACKAGE-LEVEL VARIABLES READ AS WHEN THE CALL BEGINS. Each datum BY PROGRAM (the guide's laid-datum.mjs) off the statement by which the dump's own 'gosem.cut.vars' lays the variable. In a bare row this is a premise. The card (YtlogdjhnhnfbkaaDoorCards.lean) ties it to the program's text. -/
def laid_beagle_residue_primes {H : Type} : DataW H := .agg [.lit (.int .u64 998244353), .lit (.int .u64 167772161), .lit (.int .u64 469762049)]
def laid_math_bits_deBruijn64tab {H : Type} : DataW H := .agg [.lit (.int .u8 0), .lit (.int .u8 1), .lit (.int .u8 56), .lit (.int .u8 2), .lit (.int .u8 57), .lit (.int .u8 49), .lit (.int .u8 28), .lit (.int .u8 3), .lit (.int .u8 61), .lit (.int .u8 58), .lit (.int .u8 42), .lit (.int .u8 50), .lit (.int .u8 38), .lit (.int .u8 29), .lit (.int .u8 17), .lit (.int .u8 4), .lit (.int .u8 62), .lit (.int .u8 47), .lit (.int .u8 59), .lit (.int .u8 36), .lit (.int .u8 45), .lit (.int .u8 43), .lit (.int .u8 51), .lit (.int .u8 22), .lit (.int .u8 53), .lit (.int .u8 39), .lit (.int .u8 33), .lit (.int .u8 30), .lit (.int .u8 24), .lit (.int .u8 18), .lit (.int .u8 12), .lit (.int .u8 5), .lit (.int .u8 63), .lit (.int .u8 55), .lit (.int .u8 48), .lit (.int .u8 27), .lit (.int .u8 60), .lit (.int .u8 41), .lit (.int .u8 37), .lit (.int .u8 16), .lit (.int .u8 46), .lit (.int .u8 35), .lit (.int .u8 44), .lit (.int .u8 21), .lit (.int .u8 52), .lit (.int .u8 32), .lit (.int .u8 23), .lit (.int .u8 11), .lit (.int .u8 54), .lit (.int .u8 26), .lit (.int .u8 40), .lit (.int .u8 15), .lit (.int .u8 34), .lit (.int .u8 20), .lit (.int .u8 31), .lit (.int .u8 10), .lit (.int .u8 25), .lit (.int .u8 14), .lit (.int .u8 19), .lit (.int .u8 9), .lit (.int .u8 13), .lit (.int .u8 8), .lit (.int .u8 7), .lit (.int .u8 6)]

/-- 'beaglelaw12.SplitParts': WHATEVER THE INPUT: true; the input reads as it did. -/
def splitPartsSpec : ChangeSpec := { name := "splitParts", fn := fun _ => fun
  | [d1, d2] => { results := [.lit (.bool true)], args := [d1, d2] }
  | _ => none }
def splitPartsRow : OpenClaim := { program := "ytlogdjhnhnfbkaadoor", sum := "2eae4096e0df618fb9362c1b9d76fb01e03ba852f4c5fead7907deca0c0a72e3", func := "beagle/beaglelaw12.SplitParts", spec := "splitParts", inPlace := ["math/bits.Add64"], unfollowed := true, recurses := true, named := ["math/bits.deBruijn64tab", "beagle/residue.primes"], plainKeys := false, apart := false, laid := [("beagle/residue.primes", laid_beagle_residue_primes), ("math/bits.deBruijn64tab", laid_math_bits_deBruijn64tab)] }
def SplitPartsSaid : Prop := splitPartsRow.holds Tryd.pinned (OpenSpec.ofChange splitPartsSpec)

/-- ITS FALSE NEIGHBOUR: 'it returns false'. Refute it at one input. -/
def splitPartsWrong : ChangeSpec := { name := "splitParts", fn := fun _ => fun
  | [d1, d2] => { results := [.lit (.bool false)], args := [d1, d2] }
  | _ => none }
def SplitPartsWrongFalsely : Prop := splitPartsRow.holds Tryd.pinned (OpenSpec.ofChange splitPartsWrong)

/-- 'beaglelaw12.SplitRare': WHATEVER THE INPUT: true; the input reads as it did. -/
def splitRareSpec : ChangeSpec := { name := "splitRare", fn := fun _ => fun
  | [d1, d2, d3] => { results := [.lit (.bool true)], args := [d1, d2, d3] }
  | _ => none }
def splitRareRow : OpenClaim := { program := "ytlogdjhnhnfbkaadoor", sum := "2eae4096e0df618fb9362c1b9d76fb01e03ba852f4c5fead7907deca0c0a72e3", func := "beagle/beaglelaw12.SplitRare", spec := "splitRare", inPlace := ["math/bits.Add64"], unfollowed := true, recurses := true, named := ["math/bits.deBruijn64tab", "beagle/residue.primes"], plainKeys := false, apart := false, laid := [("beagle/residue.primes", laid_beagle_residue_primes), ("math/bits.deBruijn64tab", laid_math_bits_deBruijn64tab)] }
def SplitRareSaid : Prop := splitRareRow.holds Tryd.pinned (OpenSpec.ofChange splitRareSpec)

/-- ITS FALSE NEIGHBOUR: 'it returns false'. Refute it at one input. -/
def splitRareWrong : ChangeSpec := { name := "splitRare", fn := fun _ => fun
  | [d1, d2, d3] => { results := [.lit (.bool false)], args := [d1, d2, d3] }
  | _ => none }
def SplitRareWrongFalsely : Prop := splitRareRow.holds Tryd.pinned (OpenSpec.ofChange splitRareWrong)

/-- 'beaglelaw12.SplitCounts': WHATEVER THE INPUT: true; the input reads as it did. -/
def splitCountsSpec : ChangeSpec := { name := "splitCounts", fn := fun _ => fun
  | [d1, d2, d3] => { results := [.lit (.bool true)], args := [d1, d2, d3] }
  | _ => none }
def splitCountsRow : OpenClaim := { program := "ytlogdjhnhnfbkaadoor", sum := "2eae4096e0df618fb9362c1b9d76fb01e03ba852f4c5fead7907deca0c0a72e3", func := "beagle/beaglelaw12.SplitCounts", spec := "splitCounts", inPlace := ["math/bits.Add64"], unfollowed := true, recurses := true, named := ["math/bits.deBruijn64tab", "beagle/residue.primes"], plainKeys := false, apart := false, laid := [("beagle/residue.primes", laid_beagle_residue_primes), ("math/bits.deBruijn64tab", laid_math_bits_deBruijn64tab)] }
def SplitCountsSaid : Prop := splitCountsRow.holds Tryd.pinned (OpenSpec.ofChange splitCountsSpec)

/-- ITS FALSE NEIGHBOUR: 'it returns false'. Refute it at one input. -/
def splitCountsWrong : ChangeSpec := { name := "splitCounts", fn := fun _ => fun
  | [d1, d2, d3] => { results := [.lit (.bool false)], args := [d1, d2, d3] }
  | _ => none }
def SplitCountsWrongFalsely : Prop := splitCountsRow.holds Tryd.pinned (OpenSpec.ofChange splitCountsWrong)

/-- 'beaglelaw12.SplitLeast': WHATEVER THE INPUT: true; the input reads as it did. -/
def splitLeastSpec : ChangeSpec := { name := "splitLeast", fn := fun _ => fun
  | [d1, d2, d3] => { results := [.lit (.bool true)], args := [d1, d2, d3] }
  | _ => none }
def splitLeastRow : OpenClaim := { program := "ytlogdjhnhnfbkaadoor", sum := "2eae4096e0df618fb9362c1b9d76fb01e03ba852f4c5fead7907deca0c0a72e3", func := "beagle/beaglelaw12.SplitLeast", spec := "splitLeast", inPlace := ["math/bits.Add64"], unfollowed := true, recurses := true, named := ["math/bits.deBruijn64tab", "beagle/residue.primes"], plainKeys := false, apart := false, laid := [("beagle/residue.primes", laid_beagle_residue_primes), ("math/bits.deBruijn64tab", laid_math_bits_deBruijn64tab)] }
def SplitLeastSaid : Prop := splitLeastRow.holds Tryd.pinned (OpenSpec.ofChange splitLeastSpec)

/-- ITS FALSE NEIGHBOUR: 'it returns false'. Refute it at one input. -/
def splitLeastWrong : ChangeSpec := { name := "splitLeast", fn := fun _ => fun
  | [d1, d2, d3] => { results := [.lit (.bool false)], args := [d1, d2, d3] }
  | _ => none }
def SplitLeastWrongFalsely : Prop := splitLeastRow.holds Tryd.pinned (OpenSpec.ofChange splitLeastWrong)

/-- 'beaglelaw12.SplitText': WHATEVER THE INPUT: true; the input reads as it did. -/
def splitTextSpec : ChangeSpec := { name := "splitText", fn := fun _ => fun
  | [d1, d2, d3] => { results := [.lit (.bool true)], args := [d1, d2, d3] }
  | _ => none }
def splitTextRow : OpenClaim := { program := "ytlogdjhnhnfbkaadoor", sum := "2eae4096e0df618fb9362c1b9d76fb01e03ba852f4c5fead7907deca0c0a72e3", func := "beagle/beaglelaw12.SplitText", spec := "splitText", inPlace := ["math/bits.Add64"], unfollowed := true, recurses := true, named := ["math/bits.deBruijn64tab", "beagle/residue.primes"], plainKeys := false, apart := false, laid := [("beagle/residue.primes", laid_beagle_residue_primes), ("math/bits.deBruijn64tab", laid_math_bits_deBruijn64tab)] }
def SplitTextSaid : Prop := splitTextRow.holds Tryd.pinned (OpenSpec.ofChange splitTextSpec)

/-- ITS FALSE NEIGHBOUR: 'it returns false'. Refute it at one input. -/
def splitTextWrong : ChangeSpec := { name := "splitText", fn := fun _ => fun
  | [d1, d2, d3] => { results := [.lit (.bool false)], args := [d1, d2, d3] }
  | _ => none }
def SplitTextWrongFalsely : Prop := splitTextRow.holds Tryd.pinned (OpenSpec.ofChange splitTextWrong)

/- THE SECOND FORM. 'bulk': how many values and letters a reading holds, each counted each time it is reached (what is shared counts as often as it is met; a slice's spare places count too). A statement '..UptoSaid' is the law's where the arguments, and the package variables that the reading takes, are together of bulk at most 1048576: NARROWER than '..Said'. Prove '..Said' where nothing that the law and all that it calls make is longer than what came in: it says more and counts as full. Else prove '..UptoSaid'. A law counts once. -/
mutual
def uptoBulk {H : Type} : DataW H → Nat
  | .lit (.string bytes) => bytes.length + 1
  | .lit _ => 1
  | .nil => 1
  | .ptr d => uptoBulk d + 1
  | .slice elems spare => uptoBulkAll elems + uptoBulkAll spare + 1
  | .agg parts => uptoBulkAll parts + 1
  | .iface _ d => uptoBulk d + 1
  | .map entries => uptoBulkEntries entries + 1
  | .held _ => 1
def uptoBulkAll {H : Type} : List (DataW H) → Nat
  | [] => 0
  | d :: r => uptoBulk d + uptoBulkAll r
def uptoBulkEntries {H : Type} : List (Lit × DataW H) → Nat
  | [] => 0
  | x :: r => uptoBulkEntry x + uptoBulkEntries r
def uptoBulkEntry {H : Type} : Lit × DataW H → Nat
  | (.string bytes, d) => bytes.length + uptoBulk d + 1
  | (_, d) => uptoBulk d + 1
 end
def uptoSmall : (H : Type) → List (DataW H) → Bool := fun _ ds => decide (uptoBulkAll ds ≤ 1048576)
def OpenSpec.upto (s : _root_.Go.ChangeSpec) : _root_.Go.OpenSpec := { _root_.Go.OpenSpec.ofChange s with cond := some uptoSmall }

/-- 'beaglelaw12.SplitParts', WHERE WHAT IT READS IS OF BULK AT MOST 1048576: true; the input reads as it did. -/
def splitPartsUptoRow : OpenClaim := { program := "ytlogdjhnhnfbkaadoor", sum := "2eae4096e0df618fb9362c1b9d76fb01e03ba852f4c5fead7907deca0c0a72e3", func := "beagle/beaglelaw12.SplitParts", spec := "splitParts", inPlace := ["math/bits.Add64"], unfollowed := true, recurses := true, named := ["math/bits.deBruijn64tab", "beagle/residue.primes"], plainKeys := false, apart := false, laid := [("beagle/residue.primes", laid_beagle_residue_primes), ("math/bits.deBruijn64tab", laid_math_bits_deBruijn64tab)], narrowed := true }
def SplitPartsUptoSaid : Prop := splitPartsUptoRow.holds Tryd.pinned (OpenSpec.upto splitPartsSpec)

/-- 'beaglelaw12.SplitRare', WHERE WHAT IT READS IS OF BULK AT MOST 1048576: true; the input reads as it did. -/
def splitRareUptoRow : OpenClaim := { program := "ytlogdjhnhnfbkaadoor", sum := "2eae4096e0df618fb9362c1b9d76fb01e03ba852f4c5fead7907deca0c0a72e3", func := "beagle/beaglelaw12.SplitRare", spec := "splitRare", inPlace := ["math/bits.Add64"], unfollowed := true, recurses := true, named := ["math/bits.deBruijn64tab", "beagle/residue.primes"], plainKeys := false, apart := false, laid := [("beagle/residue.primes", laid_beagle_residue_primes), ("math/bits.deBruijn64tab", laid_math_bits_deBruijn64tab)], narrowed := true }
def SplitRareUptoSaid : Prop := splitRareUptoRow.holds Tryd.pinned (OpenSpec.upto splitRareSpec)

/-- 'beaglelaw12.SplitCounts', WHERE WHAT IT READS IS OF BULK AT MOST 1048576: true; the input reads as it did. -/
def splitCountsUptoRow : OpenClaim := { program := "ytlogdjhnhnfbkaadoor", sum := "2eae4096e0df618fb9362c1b9d76fb01e03ba852f4c5fead7907deca0c0a72e3", func := "beagle/beaglelaw12.SplitCounts", spec := "splitCounts", inPlace := ["math/bits.Add64"], unfollowed := true, recurses := true, named := ["math/bits.deBruijn64tab", "beagle/residue.primes"], plainKeys := false, apart := false, laid := [("beagle/residue.primes", laid_beagle_residue_primes), ("math/bits.deBruijn64tab", laid_math_bits_deBruijn64tab)], narrowed := true }
def SplitCountsUptoSaid : Prop := splitCountsUptoRow.holds Tryd.pinned (OpenSpec.upto splitCountsSpec)

/-- 'beaglelaw12.SplitLeast', WHERE WHAT IT READS IS OF BULK AT MOST 1048576: true; the input reads as it did. -/
def splitLeastUptoRow : OpenClaim := { program := "ytlogdjhnhnfbkaadoor", sum := "2eae4096e0df618fb9362c1b9d76fb01e03ba852f4c5fead7907deca0c0a72e3", func := "beagle/beaglelaw12.SplitLeast", spec := "splitLeast", inPlace := ["math/bits.Add64"], unfollowed := true, recurses := true, named := ["math/bits.deBruijn64tab", "beagle/residue.primes"], plainKeys := false, apart := false, laid := [("beagle/residue.primes", laid_beagle_residue_primes), ("math/bits.deBruijn64tab", laid_math_bits_deBruijn64tab)], narrowed := true }
def SplitLeastUptoSaid : Prop := splitLeastUptoRow.holds Tryd.pinned (OpenSpec.upto splitLeastSpec)

/-- 'beaglelaw12.SplitText', WHERE WHAT IT READS IS OF BULK AT MOST 1048576: true; the input reads as it did. -/
def splitTextUptoRow : OpenClaim := { program := "ytlogdjhnhnfbkaadoor", sum := "2eae4096e0df618fb9362c1b9d76fb01e03ba852f4c5fead7907deca0c0a72e3", func := "beagle/beaglelaw12.SplitText", spec := "splitText", inPlace := ["math/bits.Add64"], unfollowed := true, recurses := true, named := ["math/bits.deBruijn64tab", "beagle/residue.primes"], plainKeys := false, apart := false, laid := [("beagle/residue.primes", laid_beagle_residue_primes), ("math/bits.deBruijn64tab", laid_math_bits_deBruijn64tab)], narrowed := true }
def SplitTextUptoSaid : Prop := splitTextUptoRow.holds Tryd.pinned (OpenSpec.upto splitTextSpec)

end Rows
end Go.Proofs.YtlogdjhnhnfbkaaDoor
