/- Contracts of crt.Parts, crt.Mixed and crt.Join. -/
import Derived.Test.YtcppcfbcgopmoaaDoorCrtInv
import Derived.Test.YtcppcfbcgopmoaaDoorCrtDig
import Derived.Test.YtcppcfbcgopmoaaDoorCrtNum
namespace Go.Proofs.YtcppcfbcgopmoaaDoor
open Go.RowKit Res
end Go.Proofs.YtcppcfbcgopmoaaDoor
