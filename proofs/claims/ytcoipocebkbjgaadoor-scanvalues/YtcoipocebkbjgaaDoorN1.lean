import Derived.Shelf.Strconv.Itoa3
import Derived.Test.YtcoipocebkbjgaaDoorNL
import Derived.Test.YtcoipocebkbjgaaDoorChecked
import Derived.WalkKit
import Derived.BigCall
import Derived.Below
namespace Go.Proofs.YtcoipocebkbjgaaDoor
open Go.Shelf Go.RowKit

theorem itoa_laid (n : Int) (h0 : -9223372036854775808 ≤ n) (h1 : n ≤ 9223372036854775807) (w : World)
    (htab : Lib.TabIs Tryd.prog w "internal/strconv.uint64pow10" .u64 Lib.pow10Tab) :
    Calls Tryd.prog 20 #[.int .i64 n] w fun e w' => e = .returned (.string ⟨(Lib.itoa n).toArray⟩) ∧ ∃ k os, w' = Sort.grow (w.drewN k) os := Any.strconv_Itoa Tryd.l171 n h0 h1 w htab
end Go.Proofs.YtcoipocebkbjgaaDoor
