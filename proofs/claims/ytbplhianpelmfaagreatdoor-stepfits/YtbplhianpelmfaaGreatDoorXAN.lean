import Derived.Test.YtbplhianpelmfaaGreatDoorXAM
namespace Go.Proofs.YtbplhianpelmfaaGreatDoor.Nt
open Go.RowKit Go.Shelf
end Go.Proofs.YtbplhianpelmfaaGreatDoor.Nt
