import Derived.Test.YtbdnpbiimbeflaaW10
namespace Go.Proofs.Ytbdnpbiimbeflaa
open Go.RowKit
end Go.Proofs.Ytbdnpbiimbeflaa
