/-
  What is proved: the library's contracts of slices.Reverse, slices.Clone and the insertion of slices' sort hold at this program (laid in plain words). No condition.
-/
import Derived.Shelf.SlSortCmp.KitK
import Derived.Shelf.SlicesQ.Reverse
import Derived.Shelf.SlicesE.Clone
import Derived.Shelf.SlGeneric
import Derived.Ground.SlsfProg
import Derived.Ground.SlgnProg
import Derived.Test.YtbfhlleipeipbaaChecked
namespace Go.Proofs
open Go.Shelf
def Try.insLay_ren : Go.Shelf.Ren := ⟨fun | 20 => 105 | n => n, fun | 24 => 52 | 22 => 36 | 3 => 3 | 25 => 150 | 4 => 4 | 0 => 0 | n => n, fun | n => n⟩
theorem Try.insLay : Go.Proofs.SlLaysF0.n20 Try.prog Try.insLay_ren := {
  mixed := by kernel_rfl
  f20 := ⟨Try.f105.name, by decide, Try.func105.trans (congrArg some (by kernel_rfl))⟩
  t0 := Try.underlying0
  a0 := Try.isAgg0
  z0 := Try.sizeOf0
  v0 := Try.zeroValue0
  t3 := Try.underlying3
  a3 := Try.isAgg3
  z3 := Try.sizeOf3
  v3 := Try.zeroValue3
  t4 := Try.underlying4
  a4 := Try.isAgg4
  z4 := Try.sizeOf4
  v4 := Try.zeroValue4
  t22 := Try.underlying36
  a22 := Try.isAgg36
  z22 := Try.sizeOf36
  v22 := Try.zeroValue36
  t25 := Try.underlying150
  a25 := Try.isAgg150
  z25 := Try.sizeOf150
  v25 := Try.zeroValue150 }
def Try.revLay_ren : Go.Shelf.Ren := ⟨fun | 35 => 93 | n => n, fun | 22 => 36 | 23 => 52 | 3 => 3 | 4 => 4 | 0 => 0 | n => n, fun | n => n⟩
theorem Try.revLay : Go.Proofs.SlLaysE0.n35 Try.prog Try.revLay_ren := {
  mixed := by kernel_rfl
  f35 := ⟨Try.f93.name, by decide, Try.func93.trans (congrArg some (by kernel_rfl))⟩
  t0 := Try.underlying0
  a0 := Try.isAgg0
  z0 := Try.sizeOf0
  v0 := Try.zeroValue0
  t3 := Try.underlying3
  a3 := Try.isAgg3
  z3 := Try.sizeOf3
  v3 := Try.zeroValue3
  t4 := Try.underlying4
  a4 := Try.isAgg4
  z4 := Try.sizeOf4
  v4 := Try.zeroValue4
  t22 := Try.underlying36
  a22 := Try.isAgg36
  z22 := Try.sizeOf36
  v22 := Try.zeroValue36 }
def Try.cloneLay_ren : Go.Shelf.Ren := ⟨fun | 41 => 42 | n => n, fun | 22 => 36 | 23 => 52 | 4 => 4 | n => n, fun | n => n⟩
theorem Try.cloneLay : Go.Proofs.SlLaysE0.n41 Try.prog Try.cloneLay_ren := {
  mixed := by kernel_rfl
  f41 := ⟨Try.f42.name, by decide, Try.func42.trans (congrArg some (by kernel_rfl))⟩
  t4 := Try.underlying4
  a4 := Try.isAgg4
  z4 := Try.sizeOf4
  v4 := Try.zeroValue4
  t22 := Try.underlying36
  a22 := Try.isAgg36
  z22 := Try.sizeOf36
  v22 := Try.zeroValue36 }
end Go.Proofs
