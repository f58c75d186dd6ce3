/- Contract of beaglelaw07.alive: it tells true; nothing that was there turns. -/
import Derived.Test.YtlogdjhnhnfbkaaGreatDoorLfAl
namespace Go.Proofs.YtlogdjhnhnfbkaaGreatDoor
open Go.RowKit
namespace Cls

end Cls
end Go.Proofs.YtlogdjhnhnfbkaaGreatDoor
