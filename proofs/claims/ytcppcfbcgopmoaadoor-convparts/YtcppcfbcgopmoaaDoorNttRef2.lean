/- Contracts of the document's own answers of layer 2, on: Forward, Inverse; and of Same. -/
import Derived.Test.YtcppcfbcgopmoaaDoorNttRef
import Derived.Test.YtcppcfbcgopmoaaDoorSameC
namespace Go.Proofs.YtcppcfbcgopmoaaDoor
open Go.RowKit Res

end Go.Proofs.YtcppcfbcgopmoaaDoor
