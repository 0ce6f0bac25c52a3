import Derived.Test.YtdgglglemdbgcaaR1
namespace Go.Proofs.Ytdgglglemdbgcaa
open Go.RowKit
end Go.Proofs.Ytdgglglemdbgcaa
