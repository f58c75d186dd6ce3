/- Contracts of beagleref01.Same. -/
import Derived.Test.YtlogdjhnhnfbkaaDoorMem
import Derived.CellFam
import Derived.Deep.QuietTactic
import Derived.BigQuiet
namespace Go.Proofs.YtlogdjhnhnfbkaaDoor
open Go.RowKit Res
end Go.Proofs.YtlogdjhnhnfbkaaDoor
