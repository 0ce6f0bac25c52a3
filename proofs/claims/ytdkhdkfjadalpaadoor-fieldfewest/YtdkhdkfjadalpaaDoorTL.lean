import Derived.Shelf.Spec.TrailingZeros
import Derived.Shelf.Lays7
import Derived.Test.YtdkhdkfjadalpaaDoorProg
namespace Go.Proofs
open Go.Shelf
def Tryd.l7n27_ren : Go.Shelf.Ren := ⟨fun | 27 => 15 | 28 => 18 | 29 => 19 | n => n, fun | 25 => 39 | 3 => 3 | 27 => 42 | 22 => 44 | 4 => 4 | 53 => 46 | 0 => 0 | 5 => 5 | 54 => 47 | n => n, fun | 0 => 0 | 1 => 1 | n => n⟩
theorem Tryd.l7n27 : Go.Proofs.Lays7.n27 Tryd.prog Tryd.l7n27_ren := {
  mixed := by kernel_rfl
  f27 := Tryd.func15.trans (congrArg some (by kernel_rfl))
  f28 := Tryd.func18.trans (congrArg some (by kernel_rfl))
  f29 := Tryd.func19.trans (congrArg some (by kernel_rfl))
  t0 := Tryd.underlying0
  a0 := Tryd.isAgg0
  z0 := Tryd.sizeOf0
  v0 := Tryd.zeroValue0
  i0 := by kernel_rfl
  t3 := Tryd.underlying3
  a3 := Tryd.isAgg3
  z3 := Tryd.sizeOf3
  v3 := Tryd.zeroValue3
  i3 := by kernel_rfl
  t4 := Tryd.underlying4
  a4 := Tryd.isAgg4
  z4 := Tryd.sizeOf4
  v4 := Tryd.zeroValue4
  i4 := by kernel_rfl
  t5 := Tryd.underlying5
  a5 := Tryd.isAgg5
  z5 := Tryd.sizeOf5
  v5 := Tryd.zeroValue5
  i5 := by kernel_rfl
  t22 := Tryd.underlying44
  a22 := Tryd.isAgg44
  z22 := Tryd.sizeOf44
  v22 := Tryd.zeroValue44
  i22 := by kernel_rfl
  t25 := Tryd.underlying39
  a25 := Tryd.isAgg39
  z25 := Tryd.sizeOf39
  v25 := Tryd.zeroValue39
  i25 := by kernel_rfl
  t27 := Tryd.underlying42
  a27 := Tryd.isAgg42
  z27 := Tryd.sizeOf42
  v27 := Tryd.zeroValue42
  i27 := by kernel_rfl
  t53 := Tryd.underlying46
  a53 := Tryd.isAgg46
  z53 := Tryd.sizeOf46
  v53 := Tryd.zeroValue46
  i53 := by kernel_rfl
  t54 := Tryd.underlying47
  a54 := Tryd.isAgg47
  z54 := Tryd.sizeOf47
  g0 := by kernel_rfl
  g1 := by kernel_rfl }
end Go.Proofs
