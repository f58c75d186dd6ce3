/-
  No cell of these rows narrows 'for every input' (looked for: loops, veiled, ifaces, maps, wideKeys, modest, calm, conditions, laid).
  DERIVED. THE GIVEN ROWS OF THIS SEAT. 6 by the template 'for every input the law returns true; each argument reads behind the call as it read before'; 0 by the template 'total and deterministic' (their statements: YtpogipingefkaaaTotals.lean).
  GIVEN WITH THE SEED: the statements are not yours to turn. If you find one false, say at which input.
  Laid BY PROGRAM, IN A SANDBOX (cutbox-rows.mjs): the forced cells as the released guide's own fill.sh prints them over the translation f861a9ff6886fca8… (all of the seat's roots in one cut). By AI agents, Wed Nov 11 2026. No macro, syntax, notation, axiom, sorry.
-/
import Derived.Test.YtpogipingefkaaaChecked
import GoSem.Claim
import GoSem.ClaimJoined
import GoSem.ClaimMapViews
import Derived.JoinedTies
import Derived.KernelRfl
namespace Go.Proofs.Ytpogipingefkaaa
/- THE CELL 'sum', in the pinned program and in every row, IS THE sha256 OF THE DUMP (.gsa) THAT YtpogipingefkaaaProg.lean LOADS. Nothing in Lean hashes anything: it is a label: what it is worth is what the hold of that sum in a sandbox is worth. -/
noncomputable def Try.pinned : Pinned := { name := "ytpogipingefkaaa", sum := "f861a9ff6886fca84bf30b3f8b45591d5a0d9efe9ab259b996524372bc7aef63", checked := Try.checked }
namespace Rows
def none {H : Type} : Left H := { results := [], args := [] }

/-- 'beaglelaw08.NaiveCounts': WHATEVER THE INPUT: true; the input reads as it did. -/
def naiveCountsSpec : ChangeSpec := { name := "naiveCounts", fn := fun _ => fun
  | [d1, d2, d3] => { results := [.lit (.bool true)], args := [d1, d2, d3] }
  | _ => none }
def naiveCountsRow : OpenClaim := { program := "ytpogipingefkaaa", sum := "f861a9ff6886fca84bf30b3f8b45591d5a0d9efe9ab259b996524372bc7aef63", func := "beagle/beaglelaw08.NaiveCounts", spec := "naiveCounts", unfollowed := true, recurses := true, apart := false }
def NaiveCountsSaid : Prop := naiveCountsRow.holds Try.pinned (OpenSpec.ofChange naiveCountsSpec)

/-- ITS FALSE NEIGHBOUR: 'it returns false'. Refute it at one input. -/
def naiveCountsWrong : ChangeSpec := { name := "naiveCounts", fn := fun _ => fun
  | [d1, d2, d3] => { results := [.lit (.bool false)], args := [d1, d2, d3] }
  | _ => none }
def NaiveCountsWrongFalsely : Prop := naiveCountsRow.holds Try.pinned (OpenSpec.ofChange naiveCountsWrong)

/-- 'beaglelaw08.NaiveFinds': WHATEVER THE INPUT: true; the input reads as it did. -/
def naiveFindsSpec : ChangeSpec := { name := "naiveFinds", fn := fun _ => fun
  | [d1, d2, d3] => { results := [.lit (.bool true)], args := [d1, d2, d3] }
  | _ => none }
def naiveFindsRow : OpenClaim := { program := "ytpogipingefkaaa", sum := "f861a9ff6886fca84bf30b3f8b45591d5a0d9efe9ab259b996524372bc7aef63", func := "beagle/beaglelaw08.NaiveFinds", spec := "naiveFinds", unfollowed := true, recurses := true, apart := false }
def NaiveFindsSaid : Prop := naiveFindsRow.holds Try.pinned (OpenSpec.ofChange naiveFindsSpec)

/-- ITS FALSE NEIGHBOUR: 'it returns false'. Refute it at one input. -/
def naiveFindsWrong : ChangeSpec := { name := "naiveFinds", fn := fun _ => fun
  | [d1, d2, d3] => { results := [.lit (.bool false)], args := [d1, d2, d3] }
  | _ => none }
def NaiveFindsWrongFalsely : Prop := naiveFindsRow.holds Try.pinned (OpenSpec.ofChange naiveFindsWrong)

/-- 'beaglelaw08.NaiveHits': WHATEVER THE INPUT: true; the input reads as it did. -/
def naiveHitsSpec : ChangeSpec := { name := "naiveHits", fn := fun _ => fun
  | [d1, d2] => { results := [.lit (.bool true)], args := [d1, d2] }
  | _ => none }
def naiveHitsRow : OpenClaim := { program := "ytpogipingefkaaa", sum := "f861a9ff6886fca84bf30b3f8b45591d5a0d9efe9ab259b996524372bc7aef63", func := "beagle/beaglelaw08.NaiveHits", spec := "naiveHits", unfollowed := true, recurses := true, apart := false }
def NaiveHitsSaid : Prop := naiveHitsRow.holds Try.pinned (OpenSpec.ofChange naiveHitsSpec)

/-- ITS FALSE NEIGHBOUR: 'it returns false'. Refute it at one input. -/
def naiveHitsWrong : ChangeSpec := { name := "naiveHits", fn := fun _ => fun
  | [d1, d2] => { results := [.lit (.bool false)], args := [d1, d2] }
  | _ => none }
def NaiveHitsWrongFalsely : Prop := naiveHitsRow.holds Try.pinned (OpenSpec.ofChange naiveHitsWrong)

/-- 'beaglelaw08.NaiveParts': WHATEVER THE INPUT: true; the input reads as it did. -/
def naivePartsSpec : ChangeSpec := { name := "naiveParts", fn := fun _ => fun
  | [d1, d2, d3] => { results := [.lit (.bool true)], args := [d1, d2, d3] }
  | _ => none }
def naivePartsRow : OpenClaim := { program := "ytpogipingefkaaa", sum := "f861a9ff6886fca84bf30b3f8b45591d5a0d9efe9ab259b996524372bc7aef63", func := "beagle/beaglelaw08.NaiveParts", spec := "naiveParts", unfollowed := true, recurses := true, apart := false }
def NaivePartsSaid : Prop := naivePartsRow.holds Try.pinned (OpenSpec.ofChange naivePartsSpec)

/-- ITS FALSE NEIGHBOUR: 'it returns false'. Refute it at one input. -/
def naivePartsWrong : ChangeSpec := { name := "naiveParts", fn := fun _ => fun
  | [d1, d2, d3] => { results := [.lit (.bool false)], args := [d1, d2, d3] }
  | _ => none }
def NaivePartsWrongFalsely : Prop := naivePartsRow.holds Try.pinned (OpenSpec.ofChange naivePartsWrong)

/-- 'beaglelaw08.NaiveMore': WHATEVER THE INPUT: true; the input reads as it did. -/
def naiveMoreSpec : ChangeSpec := { name := "naiveMore", fn := fun _ => fun
  | [d1, d2, d3] => { results := [.lit (.bool true)], args := [d1, d2, d3] }
  | _ => none }
def naiveMoreRow : OpenClaim := { program := "ytpogipingefkaaa", sum := "f861a9ff6886fca84bf30b3f8b45591d5a0d9efe9ab259b996524372bc7aef63", func := "beagle/beaglelaw08.NaiveMore", spec := "naiveMore", unfollowed := true, recurses := true, apart := false }
def NaiveMoreSaid : Prop := naiveMoreRow.holds Try.pinned (OpenSpec.ofChange naiveMoreSpec)

/-- ITS FALSE NEIGHBOUR: 'it returns false'. Refute it at one input. -/
def naiveMoreWrong : ChangeSpec := { name := "naiveMore", fn := fun _ => fun
  | [d1, d2, d3] => { results := [.lit (.bool false)], args := [d1, d2, d3] }
  | _ => none }
def NaiveMoreWrongFalsely : Prop := naiveMoreRow.holds Try.pinned (OpenSpec.ofChange naiveMoreWrong)

/-- 'beaglelaw08.NaiveGreater': WHATEVER THE INPUT: true; the input reads as it did. -/
def naiveGreaterSpec : ChangeSpec := { name := "naiveGreater", fn := fun _ => fun
  | [d1, d2, d3] => { results := [.lit (.bool true)], args := [d1, d2, d3] }
  | _ => none }
def naiveGreaterRow : OpenClaim := { program := "ytpogipingefkaaa", sum := "f861a9ff6886fca84bf30b3f8b45591d5a0d9efe9ab259b996524372bc7aef63", func := "beagle/beaglelaw08.NaiveGreater", spec := "naiveGreater", unfollowed := true, recurses := true, apart := false }
def NaiveGreaterSaid : Prop := naiveGreaterRow.holds Try.pinned (OpenSpec.ofChange naiveGreaterSpec)

/-- ITS FALSE NEIGHBOUR: 'it returns false'. Refute it at one input. -/
def naiveGreaterWrong : ChangeSpec := { name := "naiveGreater", fn := fun _ => fun
  | [d1, d2, d3] => { results := [.lit (.bool false)], args := [d1, d2, d3] }
  | _ => none }
def NaiveGreaterWrongFalsely : Prop := naiveGreaterRow.holds Try.pinned (OpenSpec.ofChange naiveGreaterWrong)

/- THE SECOND FORM. 'bulk': how many values and letters a reading holds, each counted each time it is reached (what is shared counts as often as it is met; a slice's spare places count too). A statement '..UptoSaid' is the law's where the arguments, and the package variables that the reading takes, are together of bulk at most 1048576: NARROWER than '..Said'. Prove '..Said' where nothing that the law and all that it calls make is longer than what came in: it says more and counts as full. Else prove '..UptoSaid'. A law counts once. -/
mutual
def uptoBulk {H : Type} : DataW H → Nat
  | .lit (.string bytes) => bytes.length + 1
  | .lit _ => 1
  | .nil => 1
  | .ptr d => uptoBulk d + 1
  | .slice elems spare => uptoBulkAll elems + uptoBulkAll spare + 1
  | .agg parts => uptoBulkAll parts + 1
  | .iface _ d => uptoBulk d + 1
  | .map entries => uptoBulkEntries entries + 1
  | .held _ => 1
def uptoBulkAll {H : Type} : List (DataW H) → Nat
  | [] => 0
  | d :: r => uptoBulk d + uptoBulkAll r
def uptoBulkEntries {H : Type} : List (Lit × DataW H) → Nat
  | [] => 0
  | x :: r => uptoBulkEntry x + uptoBulkEntries r
def uptoBulkEntry {H : Type} : Lit × DataW H → Nat
  | (.string bytes, d) => bytes.length + uptoBulk d + 1
  | (_, d) => uptoBulk d + 1
 end
def uptoSmall : (H : Type) → List (DataW H) → Bool := fun _ ds => decide (uptoBulkAll ds ≤ 1048576)
def OpenSpec.upto (s : _root_.Go.ChangeSpec) : _root_.Go.OpenSpec := { _root_.Go.OpenSpec.ofChange s with cond := some uptoSmall }

/-- 'beaglelaw08.NaiveCounts', WHERE WHAT IT READS IS OF BULK AT MOST 1048576: true; the input reads as it did. -/
def naiveCountsUptoRow : OpenClaim := { program := "ytpogipingefkaaa", sum := "f861a9ff6886fca84bf30b3f8b45591d5a0d9efe9ab259b996524372bc7aef63", func := "beagle/beaglelaw08.NaiveCounts", spec := "naiveCounts", unfollowed := true, recurses := true, apart := false, narrowed := true }
def NaiveCountsUptoSaid : Prop := naiveCountsUptoRow.holds Try.pinned (OpenSpec.upto naiveCountsSpec)

/-- 'beaglelaw08.NaiveFinds', WHERE WHAT IT READS IS OF BULK AT MOST 1048576: true; the input reads as it did. -/
def naiveFindsUptoRow : OpenClaim := { program := "ytpogipingefkaaa", sum := "f861a9ff6886fca84bf30b3f8b45591d5a0d9efe9ab259b996524372bc7aef63", func := "beagle/beaglelaw08.NaiveFinds", spec := "naiveFinds", unfollowed := true, recurses := true, apart := false, narrowed := true }
def NaiveFindsUptoSaid : Prop := naiveFindsUptoRow.holds Try.pinned (OpenSpec.upto naiveFindsSpec)

/-- 'beaglelaw08.NaiveHits', WHERE WHAT IT READS IS OF BULK AT MOST 1048576: true; the input reads as it did. -/
def naiveHitsUptoRow : OpenClaim := { program := "ytpogipingefkaaa", sum := "f861a9ff6886fca84bf30b3f8b45591d5a0d9efe9ab259b996524372bc7aef63", func := "beagle/beaglelaw08.NaiveHits", spec := "naiveHits", unfollowed := true, recurses := true, apart := false, narrowed := true }
def NaiveHitsUptoSaid : Prop := naiveHitsUptoRow.holds Try.pinned (OpenSpec.upto naiveHitsSpec)

/-- 'beaglelaw08.NaiveParts', WHERE WHAT IT READS IS OF BULK AT MOST 1048576: true; the input reads as it did. -/
def naivePartsUptoRow : OpenClaim := { program := "ytpogipingefkaaa", sum := "f861a9ff6886fca84bf30b3f8b45591d5a0d9efe9ab259b996524372bc7aef63", func := "beagle/beaglelaw08.NaiveParts", spec := "naiveParts", unfollowed := true, recurses := true, apart := false, narrowed := true }
def NaivePartsUptoSaid : Prop := naivePartsUptoRow.holds Try.pinned (OpenSpec.upto naivePartsSpec)

/-- 'beaglelaw08.NaiveMore', WHERE WHAT IT READS IS OF BULK AT MOST 1048576: true; the input reads as it did. -/
def naiveMoreUptoRow : OpenClaim := { program := "ytpogipingefkaaa", sum := "f861a9ff6886fca84bf30b3f8b45591d5a0d9efe9ab259b996524372bc7aef63", func := "beagle/beaglelaw08.NaiveMore", spec := "naiveMore", unfollowed := true, recurses := true, apart := false, narrowed := true }
def NaiveMoreUptoSaid : Prop := naiveMoreUptoRow.holds Try.pinned (OpenSpec.upto naiveMoreSpec)

/-- 'beaglelaw08.NaiveGreater', WHERE WHAT IT READS IS OF BULK AT MOST 1048576: true; the input reads as it did. -/
def naiveGreaterUptoRow : OpenClaim := { program := "ytpogipingefkaaa", sum := "f861a9ff6886fca84bf30b3f8b45591d5a0d9efe9ab259b996524372bc7aef63", func := "beagle/beaglelaw08.NaiveGreater", spec := "naiveGreater", unfollowed := true, recurses := true, apart := false, narrowed := true }
def NaiveGreaterUptoSaid : Prop := naiveGreaterUptoRow.holds Try.pinned (OpenSpec.upto naiveGreaterSpec)

end Rows
end Go.Proofs.Ytpogipingefkaaa
