/- What the laws of layer 4 share: few, Same of slices, what a parameter tells. -/
import Derived.Test.YtlogdjhnhnfbkaaDoorConvAlive
import Derived.Test.YtlogdjhnhnfbkaaDoorConvA
import Derived.Test.YtlogdjhnhnfbkaaDoorSlices
namespace Go.Proofs.YtlogdjhnhnfbkaaDoor
open Go.RowKit Res
end Go.Proofs.YtlogdjhnhnfbkaaDoor
