/- Contract of beaglelaw07.alive: it tells true; nothing that was there turns. -/
import Derived.Test.YtppmmobmoanagaaDoorLfAl
namespace Go.Proofs.YtppmmobmoanagaaDoor
open Go.RowKit
namespace Cls

end Cls
end Go.Proofs.YtppmmobmoanagaaDoor
