/-
  TrailingZeros64 at this translation.
-/
import Derived.Shelf.Spec.TrailingZeros
import Derived.Test.YtfgcgjogaaofdaaGreatDoorProg
namespace Go.Proofs
open Go.Shelf
def Tryz.lays7n29_ren : Go.Shelf.Ren := ⟨fun | 29 => 104 | n => n, fun | 22 => 28 | 3 => 3 | 4 => 4 | 25 => 59 | 54 => 152 | 0 => 0 | 5 => 5 | n => n, fun | 1 => 1 | n => n⟩
theorem Tryz.lays7n29 : Go.Proofs.Lays7.n29 Tryz.prog Tryz.lays7n29_ren := {
  mixed := by kernel_rfl
  f29 := Tryz.func104.trans (congrArg some (by kernel_rfl))
  t0 := Tryz.underlying0
  a0 := Tryz.isAgg0
  z0 := Tryz.sizeOf0
  v0 := Tryz.zeroValue0
  i0 := by kernel_rfl
  t3 := Tryz.underlying3
  a3 := Tryz.isAgg3
  z3 := Tryz.sizeOf3
  v3 := Tryz.zeroValue3
  i3 := by kernel_rfl
  t4 := Tryz.underlying4
  a4 := Tryz.isAgg4
  z4 := Tryz.sizeOf4
  v4 := Tryz.zeroValue4
  i4 := by kernel_rfl
  t5 := Tryz.underlying5
  a5 := Tryz.isAgg5
  z5 := Tryz.sizeOf5
  v5 := Tryz.zeroValue5
  i5 := by kernel_rfl
  t22 := Tryz.underlying28
  a22 := Tryz.isAgg28
  z22 := Tryz.sizeOf28
  v22 := Tryz.zeroValue28
  i22 := by kernel_rfl
  t25 := Tryz.underlying59
  a25 := Tryz.isAgg59
  z25 := Tryz.sizeOf59
  v25 := Tryz.zeroValue59
  i25 := by kernel_rfl
  t54 := Tryz.underlying152
  a54 := Tryz.isAgg152
  z54 := Tryz.sizeOf152
  g1 := by kernel_rfl }
end Go.Proofs
