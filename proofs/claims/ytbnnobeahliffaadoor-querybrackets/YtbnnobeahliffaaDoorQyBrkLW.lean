/- The walk of 'beaglelaw14.QueryBrackets': it answers true; nothing that was there is turned. For the statement's proof. -/
import Derived.OpenShut
import Derived.ProofKit
import Derived.Test.YtbnnobeahliffaaDoorQyE
namespace Go.Proofs.YtbnnobeahliffaaDoor.queryBrackets
open Go.ChangeShapes Go.WideShapes Go.ChangeAt Go.RowKit Cls
set_option linter.unusedVariables false

theorem walk (s : ByteArray) (w : World) (hs : s.size ≤ maxLen) (hT : TabB w) (hX : TabX w) :
    Calls Tryd.prog 6 #[.string s] w fun e w' => e = .returned (.bool true) ∧ Below w.heap.size w w' :=
  qbrk_gen T2 (fun _ _ h b => h.grow b) (fun v h => alive14_any v h.1 h.2) (fun s v h _ => qparse_any s h v)
    (fun n cap so L v hn h9 _ hq => qdepth_any n cap so L hn h9 v hq)
    (fun n m ca cb so tt L M v hn hm _ hL hM => qsame_any n m ca cb so tt L M v hn hm hL hM) s w ⟨hT, hX⟩ hs

end Go.Proofs.YtbnnobeahliffaaDoor.queryBrackets
