/-
  NARROWER THAN 'FOR EVERY INPUT', by the rows' own cells (each row's printed sentence says how): ZedRows: laid · ZedFinds: laid · ZedLeaves: laid · ZedPeriods: laid · ZedWhole: laid · ZedGreatest: laid.
  DERIVED. THE GIVEN ROWS OF THIS SEAT. 6 by the template 'for every input the law returns true; each argument reads behind the call as it read before'; 0 by the template 'total and deterministic' (their statements: YtgdjllfolfiboaaDoorTotals.lean).
  GIVEN WITH THE SEED: the statements are not yours to turn. If you find one false, say at which input.
  Laid BY PROGRAM, IN A SANDBOX (cutbox-rows.mjs): the forced cells as the released guide's own fill.sh prints them over the translation a9274fbdc5c3beed… (all of the seat's roots in one cut). By AI agents, Wed Nov 11 2026. No macro, syntax, notation, axiom, sorry.
-/
import Derived.Test.YtgdjllfolfiboaaDoorChecked
import GoSem.Claim
import GoSem.ClaimJoined
import GoSem.ClaimMapViews
import Derived.JoinedTies
import Derived.KernelRfl
namespace Go.Proofs.YtgdjllfolfiboaaDoor
/- THE CELL 'sum', in the pinned program and in every row, IS THE sha256 OF THE DUMP (.gsa) THAT YtgdjllfolfiboaaDoorProg.lean LOADS. Nothing in Lean hashes anything: it is a label: what it is worth is what the hold of that sum in a sandbox is worth. -/
noncomputable def Tryd.pinned : Pinned := { name := "ytgdjllfolfiboaadoor", sum := "a9274fbdc5c3beed0591dd7c5a8a5f45d71a2689d9bc0a1cd86d2dfa09182991", checked := Tryd.checked }
namespace Rows
def none {H : Type} : Left H := { results := [], args := [] }

/- WHAT THE LISTED PACKAGE-LEVEL VARIABLES READ AS WHEN THE CALL BEGINS. Each datum BY PROGRAM (the guide's laid-datum.mjs) off the statement by which the dump's own 'gosem.cut.vars' lays the variable. In a bare row this is a premise. The card (YtgdjllfolfiboaaDoorCards.lean) ties it to the program's text. -/
def laid_math_bits_deBruijn64tab {H : Type} : DataW H := .agg [.lit (.int .u8 0), .lit (.int .u8 1), .lit (.int .u8 56), .lit (.int .u8 2), .lit (.int .u8 57), .lit (.int .u8 49), .lit (.int .u8 28), .lit (.int .u8 3), .lit (.int .u8 61), .lit (.int .u8 58), .lit (.int .u8 42), .lit (.int .u8 50), .lit (.int .u8 38), .lit (.int .u8 29), .lit (.int .u8 17), .lit (.int .u8 4), .lit (.int .u8 62), .lit (.int .u8 47), .lit (.int .u8 59), .lit (.int .u8 36), .lit (.int .u8 45), .lit (.int .u8 43), .lit (.int .u8 51), .lit (.int .u8 22), .lit (.int .u8 53), .lit (.int .u8 39), .lit (.int .u8 33), .lit (.int .u8 30), .lit (.int .u8 24), .lit (.int .u8 18), .lit (.int .u8 12), .lit (.int .u8 5), .lit (.int .u8 63), .lit (.int .u8 55), .lit (.int .u8 48), .lit (.int .u8 27), .lit (.int .u8 60), .lit (.int .u8 41), .lit (.int .u8 37), .lit (.int .u8 16), .lit (.int .u8 46), .lit (.int .u8 35), .lit (.int .u8 44), .lit (.int .u8 21), .lit (.int .u8 52), .lit (.int .u8 32), .lit (.int .u8 23), .lit (.int .u8 11), .lit (.int .u8 54), .lit (.int .u8 26), .lit (.int .u8 40), .lit (.int .u8 15), .lit (.int .u8 34), .lit (.int .u8 20), .lit (.int .u8 31), .lit (.int .u8 10), .lit (.int .u8 25), .lit (.int .u8 14), .lit (.int .u8 19), .lit (.int .u8 9), .lit (.int .u8 13), .lit (.int .u8 8), .lit (.int .u8 7), .lit (.int .u8 6)]

/-- 'beaglelaw09.ZedRows': WHATEVER THE INPUT: true; the input reads as it did. -/
def zedRowsSpec : ChangeSpec := { name := "zedRows", fn := fun _ => fun
  | [d] => { results := [.lit (.bool true)], args := [d] }
  | _ => none }
def zedRowsRow : OpenClaim := { program := "ytgdjllfolfiboaadoor", sum := "a9274fbdc5c3beed0591dd7c5a8a5f45d71a2689d9bc0a1cd86d2dfa09182991", func := "beagle/beaglelaw09.ZedRows", spec := "zedRows", unfollowed := true, recurses := true, named := ["math/bits.deBruijn64tab"], apart := false, laid := [("math/bits.deBruijn64tab", laid_math_bits_deBruijn64tab)] }
def ZedRowsSaid : Prop := zedRowsRow.holds Tryd.pinned (OpenSpec.ofChange zedRowsSpec)

/-- ITS FALSE NEIGHBOUR: 'it returns false'. Refute it at one input. -/
def zedRowsWrong : ChangeSpec := { name := "zedRows", fn := fun _ => fun
  | [d] => { results := [.lit (.bool false)], args := [d] }
  | _ => none }
def ZedRowsWrongFalsely : Prop := zedRowsRow.holds Tryd.pinned (OpenSpec.ofChange zedRowsWrong)

/-- 'beaglelaw09.ZedFinds': WHATEVER THE INPUT: true; the input reads as it did. -/
def zedFindsSpec : ChangeSpec := { name := "zedFinds", fn := fun _ => fun
  | [d1, d2] => { results := [.lit (.bool true)], args := [d1, d2] }
  | _ => none }
def zedFindsRow : OpenClaim := { program := "ytgdjllfolfiboaadoor", sum := "a9274fbdc5c3beed0591dd7c5a8a5f45d71a2689d9bc0a1cd86d2dfa09182991", func := "beagle/beaglelaw09.ZedFinds", spec := "zedFinds", unfollowed := true, recurses := true, named := ["math/bits.deBruijn64tab"], apart := false, laid := [("math/bits.deBruijn64tab", laid_math_bits_deBruijn64tab)] }
def ZedFindsSaid : Prop := zedFindsRow.holds Tryd.pinned (OpenSpec.ofChange zedFindsSpec)

/-- ITS FALSE NEIGHBOUR: 'it returns false'. Refute it at one input. -/
def zedFindsWrong : ChangeSpec := { name := "zedFinds", fn := fun _ => fun
  | [d1, d2] => { results := [.lit (.bool false)], args := [d1, d2] }
  | _ => none }
def ZedFindsWrongFalsely : Prop := zedFindsRow.holds Tryd.pinned (OpenSpec.ofChange zedFindsWrong)

/-- 'beaglelaw09.ZedLeaves': WHATEVER THE INPUT: true; the input reads as it did. -/
def zedLeavesSpec : ChangeSpec := { name := "zedLeaves", fn := fun _ => fun
  | [d1, d2] => { results := [.lit (.bool true)], args := [d1, d2] }
  | _ => none }
def zedLeavesRow : OpenClaim := { program := "ytgdjllfolfiboaadoor", sum := "a9274fbdc5c3beed0591dd7c5a8a5f45d71a2689d9bc0a1cd86d2dfa09182991", func := "beagle/beaglelaw09.ZedLeaves", spec := "zedLeaves", unfollowed := true, recurses := true, named := ["math/bits.deBruijn64tab"], apart := false, laid := [("math/bits.deBruijn64tab", laid_math_bits_deBruijn64tab)] }
def ZedLeavesSaid : Prop := zedLeavesRow.holds Tryd.pinned (OpenSpec.ofChange zedLeavesSpec)

/-- ITS FALSE NEIGHBOUR: 'it returns false'. Refute it at one input. -/
def zedLeavesWrong : ChangeSpec := { name := "zedLeaves", fn := fun _ => fun
  | [d1, d2] => { results := [.lit (.bool false)], args := [d1, d2] }
  | _ => none }
def ZedLeavesWrongFalsely : Prop := zedLeavesRow.holds Tryd.pinned (OpenSpec.ofChange zedLeavesWrong)

/-- 'beaglelaw09.ZedPeriods': WHATEVER THE INPUT: true; the input reads as it did. -/
def zedPeriodsSpec : ChangeSpec := { name := "zedPeriods", fn := fun _ => fun
  | [d] => { results := [.lit (.bool true)], args := [d] }
  | _ => none }
def zedPeriodsRow : OpenClaim := { program := "ytgdjllfolfiboaadoor", sum := "a9274fbdc5c3beed0591dd7c5a8a5f45d71a2689d9bc0a1cd86d2dfa09182991", func := "beagle/beaglelaw09.ZedPeriods", spec := "zedPeriods", unfollowed := true, recurses := true, named := ["math/bits.deBruijn64tab"], apart := false, laid := [("math/bits.deBruijn64tab", laid_math_bits_deBruijn64tab)] }
def ZedPeriodsSaid : Prop := zedPeriodsRow.holds Tryd.pinned (OpenSpec.ofChange zedPeriodsSpec)

/-- ITS FALSE NEIGHBOUR: 'it returns false'. Refute it at one input. -/
def zedPeriodsWrong : ChangeSpec := { name := "zedPeriods", fn := fun _ => fun
  | [d] => { results := [.lit (.bool false)], args := [d] }
  | _ => none }
def ZedPeriodsWrongFalsely : Prop := zedPeriodsRow.holds Tryd.pinned (OpenSpec.ofChange zedPeriodsWrong)

/-- 'beaglelaw09.ZedWhole': WHATEVER THE INPUT: true; the input reads as it did. -/
def zedWholeSpec : ChangeSpec := { name := "zedWhole", fn := fun _ => fun
  | [d] => { results := [.lit (.bool true)], args := [d] }
  | _ => none }
def zedWholeRow : OpenClaim := { program := "ytgdjllfolfiboaadoor", sum := "a9274fbdc5c3beed0591dd7c5a8a5f45d71a2689d9bc0a1cd86d2dfa09182991", func := "beagle/beaglelaw09.ZedWhole", spec := "zedWhole", unfollowed := true, recurses := true, named := ["math/bits.deBruijn64tab"], apart := false, laid := [("math/bits.deBruijn64tab", laid_math_bits_deBruijn64tab)] }
def ZedWholeSaid : Prop := zedWholeRow.holds Tryd.pinned (OpenSpec.ofChange zedWholeSpec)

/-- ITS FALSE NEIGHBOUR: 'it returns false'. Refute it at one input. -/
def zedWholeWrong : ChangeSpec := { name := "zedWhole", fn := fun _ => fun
  | [d] => { results := [.lit (.bool false)], args := [d] }
  | _ => none }
def ZedWholeWrongFalsely : Prop := zedWholeRow.holds Tryd.pinned (OpenSpec.ofChange zedWholeWrong)

/-- 'beaglelaw09.ZedGreatest': WHATEVER THE INPUT: true; the input reads as it did. -/
def zedGreatestSpec : ChangeSpec := { name := "zedGreatest", fn := fun _ => fun
  | [d1, d2] => { results := [.lit (.bool true)], args := [d1, d2] }
  | _ => none }
def zedGreatestRow : OpenClaim := { program := "ytgdjllfolfiboaadoor", sum := "a9274fbdc5c3beed0591dd7c5a8a5f45d71a2689d9bc0a1cd86d2dfa09182991", func := "beagle/beaglelaw09.ZedGreatest", spec := "zedGreatest", unfollowed := true, recurses := true, named := ["math/bits.deBruijn64tab"], apart := false, laid := [("math/bits.deBruijn64tab", laid_math_bits_deBruijn64tab)] }
def ZedGreatestSaid : Prop := zedGreatestRow.holds Tryd.pinned (OpenSpec.ofChange zedGreatestSpec)

/-- ITS FALSE NEIGHBOUR: 'it returns false'. Refute it at one input. -/
def zedGreatestWrong : ChangeSpec := { name := "zedGreatest", fn := fun _ => fun
  | [d1, d2] => { results := [.lit (.bool false)], args := [d1, d2] }
  | _ => none }
def ZedGreatestWrongFalsely : Prop := zedGreatestRow.holds Tryd.pinned (OpenSpec.ofChange zedGreatestWrong)

/- THE SECOND FORM. 'bulk': how many values and letters a reading holds, each counted each time it is reached (what is shared counts as often as it is met; a slice's spare places count too). A statement '..UptoSaid' is the law's where the arguments, and the package variables that the reading takes, are together of bulk at most 1048576: NARROWER than '..Said'. Prove '..Said' where nothing that the law and all that it calls make is longer than what came in: it says more and counts as full. Else prove '..UptoSaid'. A law counts once. -/
mutual
def uptoBulk {H : Type} : DataW H → Nat
  | .lit (.string bytes) => bytes.length + 1
  | .lit _ => 1
  | .nil => 1
  | .ptr d => uptoBulk d + 1
  | .slice elems spare => uptoBulkAll elems + uptoBulkAll spare + 1
  | .agg parts => uptoBulkAll parts + 1
  | .iface _ d => uptoBulk d + 1
  | .map entries => uptoBulkEntries entries + 1
  | .held _ => 1
def uptoBulkAll {H : Type} : List (DataW H) → Nat
  | [] => 0
  | d :: r => uptoBulk d + uptoBulkAll r
def uptoBulkEntries {H : Type} : List (Lit × DataW H) → Nat
  | [] => 0
  | x :: r => uptoBulkEntry x + uptoBulkEntries r
def uptoBulkEntry {H : Type} : Lit × DataW H → Nat
  | (.string bytes, d) => bytes.length + uptoBulk d + 1
  | (_, d) => uptoBulk d + 1
 end
def uptoSmall : (H : Type) → List (DataW H) → Bool := fun _ ds => decide (uptoBulkAll ds ≤ 1048576)
def OpenSpec.upto (s : _root_.Go.ChangeSpec) : _root_.Go.OpenSpec := { _root_.Go.OpenSpec.ofChange s with cond := some uptoSmall }

/-- 'beaglelaw09.ZedRows', WHERE WHAT IT READS IS OF BULK AT MOST 1048576: true; the input reads as it did. -/
def zedRowsUptoRow : OpenClaim := { program := "ytgdjllfolfiboaadoor", sum := "a9274fbdc5c3beed0591dd7c5a8a5f45d71a2689d9bc0a1cd86d2dfa09182991", func := "beagle/beaglelaw09.ZedRows", spec := "zedRows", unfollowed := true, recurses := true, named := ["math/bits.deBruijn64tab"], apart := false, laid := [("math/bits.deBruijn64tab", laid_math_bits_deBruijn64tab)], narrowed := true }
def ZedRowsUptoSaid : Prop := zedRowsUptoRow.holds Tryd.pinned (OpenSpec.upto zedRowsSpec)

/-- 'beaglelaw09.ZedFinds', WHERE WHAT IT READS IS OF BULK AT MOST 1048576: true; the input reads as it did. -/
def zedFindsUptoRow : OpenClaim := { program := "ytgdjllfolfiboaadoor", sum := "a9274fbdc5c3beed0591dd7c5a8a5f45d71a2689d9bc0a1cd86d2dfa09182991", func := "beagle/beaglelaw09.ZedFinds", spec := "zedFinds", unfollowed := true, recurses := true, named := ["math/bits.deBruijn64tab"], apart := false, laid := [("math/bits.deBruijn64tab", laid_math_bits_deBruijn64tab)], narrowed := true }
def ZedFindsUptoSaid : Prop := zedFindsUptoRow.holds Tryd.pinned (OpenSpec.upto zedFindsSpec)

/-- 'beaglelaw09.ZedLeaves', WHERE WHAT IT READS IS OF BULK AT MOST 1048576: true; the input reads as it did. -/
def zedLeavesUptoRow : OpenClaim := { program := "ytgdjllfolfiboaadoor", sum := "a9274fbdc5c3beed0591dd7c5a8a5f45d71a2689d9bc0a1cd86d2dfa09182991", func := "beagle/beaglelaw09.ZedLeaves", spec := "zedLeaves", unfollowed := true, recurses := true, named := ["math/bits.deBruijn64tab"], apart := false, laid := [("math/bits.deBruijn64tab", laid_math_bits_deBruijn64tab)], narrowed := true }
def ZedLeavesUptoSaid : Prop := zedLeavesUptoRow.holds Tryd.pinned (OpenSpec.upto zedLeavesSpec)

/-- 'beaglelaw09.ZedPeriods', WHERE WHAT IT READS IS OF BULK AT MOST 1048576: true; the input reads as it did. -/
def zedPeriodsUptoRow : OpenClaim := { program := "ytgdjllfolfiboaadoor", sum := "a9274fbdc5c3beed0591dd7c5a8a5f45d71a2689d9bc0a1cd86d2dfa09182991", func := "beagle/beaglelaw09.ZedPeriods", spec := "zedPeriods", unfollowed := true, recurses := true, named := ["math/bits.deBruijn64tab"], apart := false, laid := [("math/bits.deBruijn64tab", laid_math_bits_deBruijn64tab)], narrowed := true }
def ZedPeriodsUptoSaid : Prop := zedPeriodsUptoRow.holds Tryd.pinned (OpenSpec.upto zedPeriodsSpec)

/-- 'beaglelaw09.ZedWhole', WHERE WHAT IT READS IS OF BULK AT MOST 1048576: true; the input reads as it did. -/
def zedWholeUptoRow : OpenClaim := { program := "ytgdjllfolfiboaadoor", sum := "a9274fbdc5c3beed0591dd7c5a8a5f45d71a2689d9bc0a1cd86d2dfa09182991", func := "beagle/beaglelaw09.ZedWhole", spec := "zedWhole", unfollowed := true, recurses := true, named := ["math/bits.deBruijn64tab"], apart := false, laid := [("math/bits.deBruijn64tab", laid_math_bits_deBruijn64tab)], narrowed := true }
def ZedWholeUptoSaid : Prop := zedWholeUptoRow.holds Tryd.pinned (OpenSpec.upto zedWholeSpec)

/-- 'beaglelaw09.ZedGreatest', WHERE WHAT IT READS IS OF BULK AT MOST 1048576: true; the input reads as it did. -/
def zedGreatestUptoRow : OpenClaim := { program := "ytgdjllfolfiboaadoor", sum := "a9274fbdc5c3beed0591dd7c5a8a5f45d71a2689d9bc0a1cd86d2dfa09182991", func := "beagle/beaglelaw09.ZedGreatest", spec := "zedGreatest", unfollowed := true, recurses := true, named := ["math/bits.deBruijn64tab"], apart := false, laid := [("math/bits.deBruijn64tab", laid_math_bits_deBruijn64tab)], narrowed := true }
def ZedGreatestUptoSaid : Prop := zedGreatestUptoRow.holds Tryd.pinned (OpenSpec.upto zedGreatestSpec)

end Rows
end Go.Proofs.YtgdjllfolfiboaaDoor
