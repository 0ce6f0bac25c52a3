import Derived.Test.YtcejejiomhhpgaaGreatDoorXBC
import Derived.Test.YtcejejiomhhpgaaGreatDoorXAW
namespace Go.Proofs.YtcejejiomhhpgaaGreatDoor
open Go.RowKit Go.Shelf
end Go.Proofs.YtcejejiomhhpgaaGreatDoor
