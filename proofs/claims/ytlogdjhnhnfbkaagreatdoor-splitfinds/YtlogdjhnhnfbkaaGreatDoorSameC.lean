/- Contracts of beagleref01.Same. -/
import Derived.Test.YtlogdjhnhnfbkaaGreatDoorMem
import Derived.CellFam
import Derived.Deep.QuietTactic
import Derived.BigQuiet
namespace Go.Proofs.YtlogdjhnhnfbkaaGreatDoor
open Go.RowKit Res
end Go.Proofs.YtlogdjhnhnfbkaaGreatDoor
