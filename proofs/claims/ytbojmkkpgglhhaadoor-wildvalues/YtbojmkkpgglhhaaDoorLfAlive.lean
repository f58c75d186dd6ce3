/- Contract of beaglelaw07.alive: it tells true; nothing that was there turns. -/
import Derived.Test.YtbojmkkpgglhhaaDoorLfAl
namespace Go.Proofs.YtbojmkkpgglhhaaDoor
open Go.RowKit
namespace Cls

end Cls
end Go.Proofs.YtbojmkkpgglhhaaDoor
