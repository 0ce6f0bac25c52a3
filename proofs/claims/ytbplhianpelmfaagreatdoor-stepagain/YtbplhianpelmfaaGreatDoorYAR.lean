import Derived.Test.YtbplhianpelmfaaGreatDoorYAQ
import Derived.Laws.MakeOwn
namespace Go.Proofs.YtbplhianpelmfaaGreatDoor.Nt
open Go.RowKit Go.Shelf
theorem info_rints:(Tryz.prog.info? 3).map (fun i=>(i.zero,i.size,i.bytes))=some (some (.int .i64 0),1,8):=by kernel_rfl
end Go.Proofs.YtbplhianpelmfaaGreatDoor.Nt
