/- Contract of beaglelaw07.alive: it tells true; nothing that was there turns. -/
import Derived.Test.YtlogdjhnhnfbkaaDoorLfAl
namespace Go.Proofs.YtlogdjhnhnfbkaaDoor
open Go.RowKit
namespace Cls

end Cls
end Go.Proofs.YtlogdjhnhnfbkaaDoor
