import Derived.Test.YtdgglglemdbgcaaM6
import Derived.Test.YtdgglglemdbgcaaW17
import Derived.Test.YtdgglglemdbgcaaR2
import Derived.Test.YtdgglglemdbgcaaW8
namespace Go.Proofs.Ytdgglglemdbgcaa
open Go.RowKit

theorem info_str : (Try.prog.info? 9).map (fun i => (i.zero, i.size, i.bytes)) = some (some (.string ⟨#[]⟩), 1, 16) := by kernel_rfl

theorem own_snocP {W : World} {B k : Nat} {v' : Value} {t : List UInt8} {x : UInt8} (hx : t[k]? = some x)
    (h : W.ownsRow B 5 1 v' (k + 1) (bys (t.take k) ++ [.int .u8 (x.toNat : Int)])) : W.ownsRow B 5 1 v' (k + 1) (bys (t.take (k + 1))) := by
  rw [List.take_add_one, hx]
  show W.ownsRow B _ 1 v' (k + 1) (bys (t.take k ++ [x]))
  rw [← bys_snoc]
  exact h

end Go.Proofs.Ytdgglglemdbgcaa
