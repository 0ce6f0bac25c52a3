import Derived.Test.YtnniinljcocmnaaW10
namespace Go.Proofs.Ytnniinljcocmnaa
open Go.RowKit
end Go.Proofs.Ytnniinljcocmnaa
