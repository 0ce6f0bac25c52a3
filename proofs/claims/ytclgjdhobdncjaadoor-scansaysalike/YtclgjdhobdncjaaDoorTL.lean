import Derived.Shelf.Spec.TrailingZeros
import Derived.Shelf.Lays7
import Derived.Test.YtclgjdhobdncjaaDoorProg
namespace Go.Proofs
open Go.Shelf
def Tryd.l7n27_ren : Go.Shelf.Ren := ⟨fun | 27 => 46 | 28 => 47 | 29 => 48 | n => n, fun | 25 => 49 | 3 => 3 | 27 => 62 | 22 => 68 | 4 => 4 | 53 => 83 | 0 => 0 | 5 => 5 | 54 => 84 | n => n, fun | 0 => 3 | 1 => 4 | n => n⟩
theorem Tryd.l7n27 : Go.Proofs.Lays7.n27 Tryd.prog Tryd.l7n27_ren := {
  mixed := by kernel_rfl
  f27 := Tryd.func46.trans (congrArg some (by kernel_rfl))
  f28 := Tryd.func47.trans (congrArg some (by kernel_rfl))
  f29 := Tryd.func48.trans (congrArg some (by kernel_rfl))
  t0 := Tryd.underlying0
  a0 := Tryd.isAgg0
  z0 := Tryd.sizeOf0
  v0 := Tryd.zeroValue0
  i0 := by kernel_rfl
  t3 := Tryd.underlying3
  a3 := Tryd.isAgg3
  z3 := Tryd.sizeOf3
  v3 := Tryd.zeroValue3
  i3 := by kernel_rfl
  t4 := Tryd.underlying4
  a4 := Tryd.isAgg4
  z4 := Tryd.sizeOf4
  v4 := Tryd.zeroValue4
  i4 := by kernel_rfl
  t5 := Tryd.underlying5
  a5 := Tryd.isAgg5
  z5 := Tryd.sizeOf5
  v5 := Tryd.zeroValue5
  i5 := by kernel_rfl
  t22 := Tryd.underlying68
  a22 := Tryd.isAgg68
  z22 := Tryd.sizeOf68
  v22 := Tryd.zeroValue68
  i22 := by kernel_rfl
  t25 := Tryd.underlying49
  a25 := Tryd.isAgg49
  z25 := Tryd.sizeOf49
  v25 := Tryd.zeroValue49
  i25 := by kernel_rfl
  t27 := Tryd.underlying62
  a27 := Tryd.isAgg62
  z27 := Tryd.sizeOf62
  v27 := Tryd.zeroValue62
  i27 := by kernel_rfl
  t53 := Tryd.underlying83
  a53 := Tryd.isAgg83
  z53 := Tryd.sizeOf83
  v53 := Tryd.zeroValue83
  i53 := by kernel_rfl
  t54 := Tryd.underlying84
  a54 := Tryd.isAgg84
  z54 := Tryd.sizeOf84
  g0 := by kernel_rfl
  g1 := by kernel_rfl }
end Go.Proofs
