/-
  NARROWER THAN 'FOR EVERY INPUT', by the rows' own cells (each row's printed sentence says how): BlockChecks: laid · BlockCounts: laid · BlockFits: laid · BlockCorrelates: laid · BlockSizes: laid · BlockConv: laid · BlockMore: laid.
  DERIVED. THE GIVEN ROWS OF THIS SEAT. 7 by the template 'for every input the law returns true; each argument reads behind the call as it read before'; 0 by the template 'total and deterministic' (their statements: YtdffofpoilfhiaaDoorTotals.lean).
  GIVEN WITH THE SEED: the statements are not yours to turn. If you find one false, say at which input.
  Laid BY PROGRAM, IN A SANDBOX (cutbox-rows.mjs): the forced cells as the released guide's own fill.sh prints them over the translation e62c7fb9446c6113… (all of the seat's roots in one cut). By AI agents, Wed Nov 11 2026. No macro, syntax, notation, axiom, sorry.
-/
import Derived.Test.YtdffofpoilfhiaaDoorChecked
import GoSem.Claim
import GoSem.ClaimJoined
import GoSem.ClaimMapViews
import Derived.JoinedTies
import Derived.KernelRfl
namespace Go.Proofs.YtdffofpoilfhiaaDoor
/- THE CELL 'sum', in the pinned program and in every row, IS THE sha256 OF THE DUMP (.gsa) THAT YtdffofpoilfhiaaDoorProg.lean LOADS. Nothing in Lean hashes anything: it is a label: what it is worth is what the hold of that sum in a sandbox is worth. -/
noncomputable def Tryd.pinned : Pinned := { name := "ytdffofpoilfhiaadoor", sum := "e62c7fb9446c611304758f4504a0412da6156a58b512687f24867bd7e097598d", checked := Tryd.checked }
namespace Rows
def none {H : Type} : Left H := { results := [], args := [] }

/- WHAT THE LISTED PACKAGE-LEVEL VARIABLES READ AS WHEN THE CALL BEGINS. Each datum BY PROGRAM (the guide's laid-datum.mjs) off the statement by which the dump's own 'gosem.cut.vars' lays the variable. In a bare row this is a premise. The card (YtdffofpoilfhiaaDoorCards.lean) ties it to the program's text. -/
def laid_beagle_residue_primes {H : Type} : DataW H := .agg [.lit (.int .u64 998244353), .lit (.int .u64 167772161), .lit (.int .u64 469762049)]

/-- 'beaglelaw05.BlockChecks': WHATEVER THE INPUT: true; the input reads as it did. -/
def blockChecksSpec : ChangeSpec := { name := "blockChecks", fn := fun _ => fun
  | [d1, d2, d3] => { results := [.lit (.bool true)], args := [d1, d2, d3] }
  | _ => none }
def blockChecksRow : OpenClaim := { program := "ytdffofpoilfhiaadoor", sum := "e62c7fb9446c611304758f4504a0412da6156a58b512687f24867bd7e097598d", func := "beagle/beaglelaw05.BlockChecks", spec := "blockChecks", inPlace := ["math/bits.Add64"], unfollowed := true, recurses := true, named := ["beagle/residue.primes"], apart := false, laid := [("beagle/residue.primes", laid_beagle_residue_primes)] }
def BlockChecksSaid : Prop := blockChecksRow.holds Tryd.pinned (OpenSpec.ofChange blockChecksSpec)

/-- ITS FALSE NEIGHBOUR: 'it returns false'. Refute it at one input. -/
def blockChecksWrong : ChangeSpec := { name := "blockChecks", fn := fun _ => fun
  | [d1, d2, d3] => { results := [.lit (.bool false)], args := [d1, d2, d3] }
  | _ => none }
def BlockChecksWrongFalsely : Prop := blockChecksRow.holds Tryd.pinned (OpenSpec.ofChange blockChecksWrong)

/-- 'beaglelaw05.BlockCounts': WHATEVER THE INPUT: true; the input reads as it did. -/
def blockCountsSpec : ChangeSpec := { name := "blockCounts", fn := fun _ => fun
  | [d1, d2, d3] => { results := [.lit (.bool true)], args := [d1, d2, d3] }
  | _ => none }
def blockCountsRow : OpenClaim := { program := "ytdffofpoilfhiaadoor", sum := "e62c7fb9446c611304758f4504a0412da6156a58b512687f24867bd7e097598d", func := "beagle/beaglelaw05.BlockCounts", spec := "blockCounts", inPlace := ["math/bits.Add64"], unfollowed := true, recurses := true, named := ["beagle/residue.primes"], apart := false, laid := [("beagle/residue.primes", laid_beagle_residue_primes)] }
def BlockCountsSaid : Prop := blockCountsRow.holds Tryd.pinned (OpenSpec.ofChange blockCountsSpec)

/-- ITS FALSE NEIGHBOUR: 'it returns false'. Refute it at one input. -/
def blockCountsWrong : ChangeSpec := { name := "blockCounts", fn := fun _ => fun
  | [d1, d2, d3] => { results := [.lit (.bool false)], args := [d1, d2, d3] }
  | _ => none }
def BlockCountsWrongFalsely : Prop := blockCountsRow.holds Tryd.pinned (OpenSpec.ofChange blockCountsWrong)

/-- 'beaglelaw05.BlockFits': WHATEVER THE INPUT: true; the input reads as it did. -/
def blockFitsSpec : ChangeSpec := { name := "blockFits", fn := fun _ => fun
  | [d1, d2] => { results := [.lit (.bool true)], args := [d1, d2] }
  | _ => none }
def blockFitsRow : OpenClaim := { program := "ytdffofpoilfhiaadoor", sum := "e62c7fb9446c611304758f4504a0412da6156a58b512687f24867bd7e097598d", func := "beagle/beaglelaw05.BlockFits", spec := "blockFits", inPlace := ["math/bits.Add64"], unfollowed := true, recurses := true, named := ["beagle/residue.primes"], apart := false, laid := [("beagle/residue.primes", laid_beagle_residue_primes)] }
def BlockFitsSaid : Prop := blockFitsRow.holds Tryd.pinned (OpenSpec.ofChange blockFitsSpec)

/-- ITS FALSE NEIGHBOUR: 'it returns false'. Refute it at one input. -/
def blockFitsWrong : ChangeSpec := { name := "blockFits", fn := fun _ => fun
  | [d1, d2] => { results := [.lit (.bool false)], args := [d1, d2] }
  | _ => none }
def BlockFitsWrongFalsely : Prop := blockFitsRow.holds Tryd.pinned (OpenSpec.ofChange blockFitsWrong)

/-- 'beaglelaw05.BlockCorrelates': WHATEVER THE INPUT: true; the input reads as it did. -/
def blockCorrelatesSpec : ChangeSpec := { name := "blockCorrelates", fn := fun _ => fun
  | [d1, d2, d3] => { results := [.lit (.bool true)], args := [d1, d2, d3] }
  | _ => none }
def blockCorrelatesRow : OpenClaim := { program := "ytdffofpoilfhiaadoor", sum := "e62c7fb9446c611304758f4504a0412da6156a58b512687f24867bd7e097598d", func := "beagle/beaglelaw05.BlockCorrelates", spec := "blockCorrelates", inPlace := ["math/bits.Add64"], unfollowed := true, recurses := true, named := ["beagle/residue.primes"], apart := false, laid := [("beagle/residue.primes", laid_beagle_residue_primes)] }
def BlockCorrelatesSaid : Prop := blockCorrelatesRow.holds Tryd.pinned (OpenSpec.ofChange blockCorrelatesSpec)

/-- ITS FALSE NEIGHBOUR: 'it returns false'. Refute it at one input. -/
def blockCorrelatesWrong : ChangeSpec := { name := "blockCorrelates", fn := fun _ => fun
  | [d1, d2, d3] => { results := [.lit (.bool false)], args := [d1, d2, d3] }
  | _ => none }
def BlockCorrelatesWrongFalsely : Prop := blockCorrelatesRow.holds Tryd.pinned (OpenSpec.ofChange blockCorrelatesWrong)

/-- 'beaglelaw05.BlockSizes': WHATEVER THE INPUT: true; the input reads as it did. -/
def blockSizesSpec : ChangeSpec := { name := "blockSizes", fn := fun _ => fun
  | [d1, d2, d3] => { results := [.lit (.bool true)], args := [d1, d2, d3] }
  | _ => none }
def blockSizesRow : OpenClaim := { program := "ytdffofpoilfhiaadoor", sum := "e62c7fb9446c611304758f4504a0412da6156a58b512687f24867bd7e097598d", func := "beagle/beaglelaw05.BlockSizes", spec := "blockSizes", inPlace := ["math/bits.Add64"], unfollowed := true, recurses := true, named := ["beagle/residue.primes"], apart := false, laid := [("beagle/residue.primes", laid_beagle_residue_primes)] }
def BlockSizesSaid : Prop := blockSizesRow.holds Tryd.pinned (OpenSpec.ofChange blockSizesSpec)

/-- ITS FALSE NEIGHBOUR: 'it returns false'. Refute it at one input. -/
def blockSizesWrong : ChangeSpec := { name := "blockSizes", fn := fun _ => fun
  | [d1, d2, d3] => { results := [.lit (.bool false)], args := [d1, d2, d3] }
  | _ => none }
def BlockSizesWrongFalsely : Prop := blockSizesRow.holds Tryd.pinned (OpenSpec.ofChange blockSizesWrong)

/-- 'beaglelaw05.BlockConv': WHATEVER THE INPUT: true; the input reads as it did. -/
def blockConvSpec : ChangeSpec := { name := "blockConv", fn := fun _ => fun
  | [d1, d2, d3] => { results := [.lit (.bool true)], args := [d1, d2, d3] }
  | _ => none }
def blockConvRow : OpenClaim := { program := "ytdffofpoilfhiaadoor", sum := "e62c7fb9446c611304758f4504a0412da6156a58b512687f24867bd7e097598d", func := "beagle/beaglelaw05.BlockConv", spec := "blockConv", inPlace := ["math/bits.Add64"], unfollowed := true, recurses := true, named := ["beagle/residue.primes"], apart := false, laid := [("beagle/residue.primes", laid_beagle_residue_primes)] }
def BlockConvSaid : Prop := blockConvRow.holds Tryd.pinned (OpenSpec.ofChange blockConvSpec)

/-- ITS FALSE NEIGHBOUR: 'it returns false'. Refute it at one input. -/
def blockConvWrong : ChangeSpec := { name := "blockConv", fn := fun _ => fun
  | [d1, d2, d3] => { results := [.lit (.bool false)], args := [d1, d2, d3] }
  | _ => none }
def BlockConvWrongFalsely : Prop := blockConvRow.holds Tryd.pinned (OpenSpec.ofChange blockConvWrong)

/-- 'beaglelaw05.BlockMore': WHATEVER THE INPUT: true; the input reads as it did. -/
def blockMoreSpec : ChangeSpec := { name := "blockMore", fn := fun _ => fun
  | [d1, d2, d3] => { results := [.lit (.bool true)], args := [d1, d2, d3] }
  | _ => none }
def blockMoreRow : OpenClaim := { program := "ytdffofpoilfhiaadoor", sum := "e62c7fb9446c611304758f4504a0412da6156a58b512687f24867bd7e097598d", func := "beagle/beaglelaw05.BlockMore", spec := "blockMore", inPlace := ["math/bits.Add64"], unfollowed := true, recurses := true, named := ["beagle/residue.primes"], apart := false, laid := [("beagle/residue.primes", laid_beagle_residue_primes)] }
def BlockMoreSaid : Prop := blockMoreRow.holds Tryd.pinned (OpenSpec.ofChange blockMoreSpec)

/-- ITS FALSE NEIGHBOUR: 'it returns false'. Refute it at one input. -/
def blockMoreWrong : ChangeSpec := { name := "blockMore", fn := fun _ => fun
  | [d1, d2, d3] => { results := [.lit (.bool false)], args := [d1, d2, d3] }
  | _ => none }
def BlockMoreWrongFalsely : Prop := blockMoreRow.holds Tryd.pinned (OpenSpec.ofChange blockMoreWrong)

/- THE SECOND FORM. 'bulk': how many values and letters a reading holds, each counted each time it is reached (what is shared counts as often as it is met; a slice's spare places count too). A statement '..UptoSaid' is the law's where the arguments, and the package variables that the reading takes, are together of bulk at most 1048576: NARROWER than '..Said'. Prove '..Said' where nothing that the law and all that it calls make is longer than what came in: it says more and counts as full. Else prove '..UptoSaid'. A law counts once. -/
mutual
def uptoBulk {H : Type} : DataW H → Nat
  | .lit (.string bytes) => bytes.length + 1
  | .lit _ => 1
  | .nil => 1
  | .ptr d => uptoBulk d + 1
  | .slice elems spare => uptoBulkAll elems + uptoBulkAll spare + 1
  | .agg parts => uptoBulkAll parts + 1
  | .iface _ d => uptoBulk d + 1
  | .map entries => uptoBulkEntries entries + 1
  | .held _ => 1
def uptoBulkAll {H : Type} : List (DataW H) → Nat
  | [] => 0
  | d :: r => uptoBulk d + uptoBulkAll r
def uptoBulkEntries {H : Type} : List (Lit × DataW H) → Nat
  | [] => 0
  | x :: r => uptoBulkEntry x + uptoBulkEntries r
def uptoBulkEntry {H : Type} : Lit × DataW H → Nat
  | (.string bytes, d) => bytes.length + uptoBulk d + 1
  | (_, d) => uptoBulk d + 1
 end
def uptoSmall : (H : Type) → List (DataW H) → Bool := fun _ ds => decide (uptoBulkAll ds ≤ 1048576)
def OpenSpec.upto (s : _root_.Go.ChangeSpec) : _root_.Go.OpenSpec := { _root_.Go.OpenSpec.ofChange s with cond := some uptoSmall }

/-- 'beaglelaw05.BlockChecks', WHERE WHAT IT READS IS OF BULK AT MOST 1048576: true; the input reads as it did. -/
def blockChecksUptoRow : OpenClaim := { program := "ytdffofpoilfhiaadoor", sum := "e62c7fb9446c611304758f4504a0412da6156a58b512687f24867bd7e097598d", func := "beagle/beaglelaw05.BlockChecks", spec := "blockChecks", inPlace := ["math/bits.Add64"], unfollowed := true, recurses := true, named := ["beagle/residue.primes"], apart := false, laid := [("beagle/residue.primes", laid_beagle_residue_primes)], narrowed := true }
def BlockChecksUptoSaid : Prop := blockChecksUptoRow.holds Tryd.pinned (OpenSpec.upto blockChecksSpec)

/-- 'beaglelaw05.BlockCounts', WHERE WHAT IT READS IS OF BULK AT MOST 1048576: true; the input reads as it did. -/
def blockCountsUptoRow : OpenClaim := { program := "ytdffofpoilfhiaadoor", sum := "e62c7fb9446c611304758f4504a0412da6156a58b512687f24867bd7e097598d", func := "beagle/beaglelaw05.BlockCounts", spec := "blockCounts", inPlace := ["math/bits.Add64"], unfollowed := true, recurses := true, named := ["beagle/residue.primes"], apart := false, laid := [("beagle/residue.primes", laid_beagle_residue_primes)], narrowed := true }
def BlockCountsUptoSaid : Prop := blockCountsUptoRow.holds Tryd.pinned (OpenSpec.upto blockCountsSpec)

/-- 'beaglelaw05.BlockFits', WHERE WHAT IT READS IS OF BULK AT MOST 1048576: true; the input reads as it did. -/
def blockFitsUptoRow : OpenClaim := { program := "ytdffofpoilfhiaadoor", sum := "e62c7fb9446c611304758f4504a0412da6156a58b512687f24867bd7e097598d", func := "beagle/beaglelaw05.BlockFits", spec := "blockFits", inPlace := ["math/bits.Add64"], unfollowed := true, recurses := true, named := ["beagle/residue.primes"], apart := false, laid := [("beagle/residue.primes", laid_beagle_residue_primes)], narrowed := true }
def BlockFitsUptoSaid : Prop := blockFitsUptoRow.holds Tryd.pinned (OpenSpec.upto blockFitsSpec)

/-- 'beaglelaw05.BlockCorrelates', WHERE WHAT IT READS IS OF BULK AT MOST 1048576: true; the input reads as it did. -/
def blockCorrelatesUptoRow : OpenClaim := { program := "ytdffofpoilfhiaadoor", sum := "e62c7fb9446c611304758f4504a0412da6156a58b512687f24867bd7e097598d", func := "beagle/beaglelaw05.BlockCorrelates", spec := "blockCorrelates", inPlace := ["math/bits.Add64"], unfollowed := true, recurses := true, named := ["beagle/residue.primes"], apart := false, laid := [("beagle/residue.primes", laid_beagle_residue_primes)], narrowed := true }
def BlockCorrelatesUptoSaid : Prop := blockCorrelatesUptoRow.holds Tryd.pinned (OpenSpec.upto blockCorrelatesSpec)

/-- 'beaglelaw05.BlockSizes', WHERE WHAT IT READS IS OF BULK AT MOST 1048576: true; the input reads as it did. -/
def blockSizesUptoRow : OpenClaim := { program := "ytdffofpoilfhiaadoor", sum := "e62c7fb9446c611304758f4504a0412da6156a58b512687f24867bd7e097598d", func := "beagle/beaglelaw05.BlockSizes", spec := "blockSizes", inPlace := ["math/bits.Add64"], unfollowed := true, recurses := true, named := ["beagle/residue.primes"], apart := false, laid := [("beagle/residue.primes", laid_beagle_residue_primes)], narrowed := true }
def BlockSizesUptoSaid : Prop := blockSizesUptoRow.holds Tryd.pinned (OpenSpec.upto blockSizesSpec)

/-- 'beaglelaw05.BlockConv', WHERE WHAT IT READS IS OF BULK AT MOST 1048576: true; the input reads as it did. -/
def blockConvUptoRow : OpenClaim := { program := "ytdffofpoilfhiaadoor", sum := "e62c7fb9446c611304758f4504a0412da6156a58b512687f24867bd7e097598d", func := "beagle/beaglelaw05.BlockConv", spec := "blockConv", inPlace := ["math/bits.Add64"], unfollowed := true, recurses := true, named := ["beagle/residue.primes"], apart := false, laid := [("beagle/residue.primes", laid_beagle_residue_primes)], narrowed := true }
def BlockConvUptoSaid : Prop := blockConvUptoRow.holds Tryd.pinned (OpenSpec.upto blockConvSpec)

/-- 'beaglelaw05.BlockMore', WHERE WHAT IT READS IS OF BULK AT MOST 1048576: true; the input reads as it did. -/
def blockMoreUptoRow : OpenClaim := { program := "ytdffofpoilfhiaadoor", sum := "e62c7fb9446c611304758f4504a0412da6156a58b512687f24867bd7e097598d", func := "beagle/beaglelaw05.BlockMore", spec := "blockMore", inPlace := ["math/bits.Add64"], unfollowed := true, recurses := true, named := ["beagle/residue.primes"], apart := false, laid := [("beagle/residue.primes", laid_beagle_residue_primes)], narrowed := true }
def BlockMoreUptoSaid : Prop := blockMoreUptoRow.holds Tryd.pinned (OpenSpec.upto blockMoreSpec)

end Rows
end Go.Proofs.YtdffofpoilfhiaaDoor
