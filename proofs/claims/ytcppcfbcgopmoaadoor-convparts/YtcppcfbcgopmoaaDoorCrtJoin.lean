/- Contract of crt.Join. -/
import Derived.Test.YtcppcfbcgopmoaaDoorCrtParts
namespace Go.Proofs.YtcppcfbcgopmoaaDoor
open Go.RowKit Res
end Go.Proofs.YtcppcfbcgopmoaaDoor
