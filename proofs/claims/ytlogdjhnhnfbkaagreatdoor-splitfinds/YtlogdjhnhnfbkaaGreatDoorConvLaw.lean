/- What the laws of layer 4 share: few, Same of slices, what a parameter tells. -/
import Derived.Test.YtlogdjhnhnfbkaaGreatDoorConvAlive
import Derived.Test.YtlogdjhnhnfbkaaGreatDoorConvA
import Derived.Test.YtlogdjhnhnfbkaaGreatDoorSlices
namespace Go.Proofs.YtlogdjhnhnfbkaaGreatDoor
open Go.RowKit Res
end Go.Proofs.YtlogdjhnhnfbkaaGreatDoor
