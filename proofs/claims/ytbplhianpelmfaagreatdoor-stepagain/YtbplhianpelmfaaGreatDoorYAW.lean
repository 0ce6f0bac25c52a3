import Derived.Test.YtbplhianpelmfaaGreatDoorYAV
namespace Go.Proofs.YtbplhianpelmfaaGreatDoor.Nt
open Go.RowKit Go.Shelf
end Go.Proofs.YtbplhianpelmfaaGreatDoor.Nt
