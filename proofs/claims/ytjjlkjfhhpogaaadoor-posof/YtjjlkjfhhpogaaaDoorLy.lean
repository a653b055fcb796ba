/-
  slices.Insert and slices.BinarySearch at []int: the tables of numbers, and the theorems that the library's structures lie here.
-/
import Derived.Shelf.Spec.SlicesInsert
import Derived.Shelf.Spec.SlicesInsertGrow
import Derived.Shelf.Slices.SearchI
import Derived.Shelf.Slices.Empties
import Derived.Test.YtjjlkjfhhpogaaaDoorProg
namespace Go.Proofs
open Go.Shelf
def Tryd.int_ren : Go.Shelf.Ren := ⟨fun | 21 => 115 | 27 => 130 | 28 => 131 | 35 => 148 | 39 => 157 | 25 => 114 | 31 => 128 | 32 => 129 | 37 => 147 | n => n, fun | 0 => 0 | 3 => 3 | 4 => 4 | 22 => 50 | 40 => 124 | n => n, fun | n => n⟩
theorem Tryd.laysIns : Go.Proofs.Lays2.n21 Tryd.prog Tryd.int_ren := {
  mixed := by kernel_rfl
  f21 := Tryd.func115.trans (congrArg some (by kernel_rfl))
  f27 := Tryd.func130.trans (congrArg some (by kernel_rfl))
  f28 := Tryd.func131.trans (congrArg some (by kernel_rfl))
  f35 := Tryd.func148.trans (congrArg some (by kernel_rfl))
  f39 := Tryd.func157.trans (congrArg some (by kernel_rfl))
  t0 := Tryd.underlying0
  a0 := Tryd.isAgg0
  z0 := Tryd.sizeOf0
  v0 := Tryd.zeroValue0
  t3 := Tryd.underlying3
  a3 := Tryd.isAgg3
  z3 := Tryd.sizeOf3
  v3 := Tryd.zeroValue3
  t4 := Tryd.underlying4
  a4 := Tryd.isAgg4
  z4 := Tryd.sizeOf4
  v4 := Tryd.zeroValue4
  t22 := Tryd.underlying50
  a22 := Tryd.isAgg50
  z22 := Tryd.sizeOf50
  v22 := Tryd.zeroValue50
  i3 := by kernel_rfl }
theorem Tryd.laysBs : Go.Proofs.Lays2.n25 Tryd.prog Tryd.int_ren := {
  mixed := by kernel_rfl
  f25 := Tryd.func114.trans (congrArg some (by kernel_rfl))
  f31 := Tryd.func128.trans (congrArg some (by kernel_rfl))
  f32 := Tryd.func129.trans (congrArg some (by kernel_rfl))
  f37 := Tryd.func147.trans (congrArg some (by kernel_rfl))
  t0 := Tryd.underlying0
  a0 := Tryd.isAgg0
  z0 := Tryd.sizeOf0
  v0 := Tryd.zeroValue0
  t3 := Tryd.underlying3
  a3 := Tryd.isAgg3
  z3 := Tryd.sizeOf3
  v3 := Tryd.zeroValue3
  t4 := Tryd.underlying4
  a4 := Tryd.isAgg4
  z4 := Tryd.sizeOf4
  v4 := Tryd.zeroValue4
  t22 := Tryd.underlying50
  a22 := Tryd.isAgg50
  z22 := Tryd.sizeOf50
  v22 := Tryd.zeroValue50
  t40 := Tryd.underlying124
  a40 := Tryd.isAgg124
  z40 := Tryd.sizeOf124
  v40 := Tryd.zeroValue124 }
end Go.Proofs
