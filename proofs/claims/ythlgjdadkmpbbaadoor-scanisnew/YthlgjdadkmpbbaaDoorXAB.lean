import Derived.Test.YthlgjdadkmpbbaaDoorXAA
namespace Go.Proofs.YthlgjdadkmpbbaaDoor
open Go.RowKit
end Go.Proofs.YthlgjdadkmpbbaaDoor
