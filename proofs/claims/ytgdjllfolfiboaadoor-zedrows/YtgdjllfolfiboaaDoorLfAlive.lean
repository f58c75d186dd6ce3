/- Contract of beaglelaw07.alive: it tells true; nothing that was there turns. -/
import Derived.Test.YtgdjllfolfiboaaDoorLfAl
namespace Go.Proofs.YtgdjllfolfiboaaDoor
open Go.RowKit
namespace Cls

end Cls
end Go.Proofs.YtgdjllfolfiboaaDoor
