import Derived.Test.YtodhgeolcbmeiabBH
namespace Go.Proofs.Ytodhgeolcbmeiab
open Go.RowKit
end Go.Proofs.Ytodhgeolcbmeiab
