import Derived.Test.YtbplhianpelmfaaGreatDoorYAK
namespace Go.Proofs.YtbplhianpelmfaaGreatDoor.Nt
open Go.RowKit Go.Shelf
end Go.Proofs.YtbplhianpelmfaaGreatDoor.Nt
