/- The walk of 'beaglelaw14.QueryParses': it answers true; nothing that was there is turned. For the statement's proof. -/
import Derived.OpenShut
import Derived.ProofKit
import Derived.Test.YtbnnobeahliffaaGreatDoorQyE
import Derived.Test.YtbnnobeahliffaaGreatDoorTkRf5
namespace Go.Proofs.YtbnnobeahliffaaGreatDoor.queryParses
open Go.ChangeShapes Go.WideShapes Go.ChangeAt Go.RowKit Cls
set_option linter.unusedVariables false

theorem walk (s : ByteArray) (w : World) (hs : s.size ≤ maxLen) (hT : TabB w) (hX : TabX w) :
    Calls Tryz.prog 3 #[.string s] w fun e w' => e = .returned (.bool true) ∧ Below w.heap.size w w' :=
  qparses_gen T2 (fun _ _ h b => h.grow b) (fun v h => alive14_any v h.1 h.2) (fun s v h _ => qparse_any s h v)
    (fun s v h => parse14_any (fun s hs v => lex13_any s hs v) s h v)
    (fun n cap so L v hn _ hq => qright_any n cap so L hn v hq) s w ⟨hT, hX⟩

end Go.Proofs.YtbnnobeahliffaaGreatDoor.queryParses
