/- The library's contracts on maps.Keys, its iterator and slices.Collect, at this program: laid by the kit's own tool (lay-plain). -/
import Derived.Shelf.SlIterI.Collect
import Derived.Test.YticmdeepfeiobaaProg
namespace Go.Proofs
open Go.Shelf
def Try.mapKeys_ren : Go.Shelf.Ren := ⟨fun | 7 => 30 | 10 => 36 | n => n, fun | 23 => 52 | 26 => 3 | 3 => 56 | 28 => 63 | 0 => 0 | 27 => 62 | 33 => 33 | 4 => 4 | n => n, fun | n => n⟩
theorem Try.mapKeys : Go.Proofs.SlLaysZI.n7 Try.prog Try.mapKeys_ren := {
  mixed := by kernel_rfl
  f7 := ⟨Try.f30.name, by decide, Try.func30.trans (congrArg some (by kernel_rfl))⟩
  f10 := ⟨Try.f36.name, by decide, Try.func36.trans (congrArg some (by kernel_rfl))⟩
  t0 := Try.underlying0
  a0 := Try.isAgg0
  z0 := Try.sizeOf0
  v0 := Try.zeroValue0
  t4 := Try.underlying4
  a4 := Try.isAgg4
  z4 := Try.sizeOf4
  v4 := Try.zeroValue4
  t23 := Try.underlying52
  a23 := Try.isAgg52
  z23 := Try.sizeOf52
  v23 := Try.zeroValue52
  t26 := Try.underlying3
  a26 := Try.isAgg3
  z26 := Try.sizeOf3
  v26 := Try.zeroValue3
  t27 := Try.underlying62
  a27 := Try.isAgg62
  z27 := Try.sizeOf62
  v27 := Try.zeroValue62
  t28 := Try.underlying63
  a28 := Try.isAgg63
  z28 := Try.sizeOf63
  v28 := Try.zeroValue63
  t33 := Try.underlying33
  a33 := Try.isAgg33
  z33 := Try.sizeOf33
  v33 := Try.zeroValue33 }
def Try.keysIter_ren : Go.Shelf.Ren := ⟨fun | 10 => 36 | n => n, fun | 33 => 33 | 23 => 52 | 0 => 0 | 4 => 4 | 26 => 3 | 3 => 56 | n => n, fun | n => n⟩
theorem Try.keysIter : Go.Proofs.SlLaysZI.n10 Try.prog Try.keysIter_ren := {
  mixed := by kernel_rfl
  f10 := ⟨Try.f36.name, by decide, Try.func36.trans (congrArg some (by kernel_rfl))⟩
  t0 := Try.underlying0
  a0 := Try.isAgg0
  z0 := Try.sizeOf0
  v0 := Try.zeroValue0
  t4 := Try.underlying4
  a4 := Try.isAgg4
  z4 := Try.sizeOf4
  v4 := Try.zeroValue4
  t23 := Try.underlying52
  a23 := Try.isAgg52
  z23 := Try.sizeOf52
  v23 := Try.zeroValue52
  t26 := Try.underlying3
  a26 := Try.isAgg3
  z26 := Try.sizeOf3
  v26 := Try.zeroValue3
  t33 := Try.underlying33
  a33 := Try.isAgg33
  z33 := Try.sizeOf33
  v33 := Try.zeroValue33 }
def Try.collect_ren : Go.Shelf.Ren := ⟨fun | 8 => 35 | 11 => 41 | n => n, fun | 26 => 3 | 28 => 63 | 24 => 34 | 0 => 0 | 33 => 33 | 4 => 4 | n => n, fun | n => n⟩
theorem Try.collect : Go.Proofs.SlLaysZI.n8 Try.prog Try.collect_ren := {
  mixed := by kernel_rfl
  f8 := ⟨Try.f35.name, by decide, Try.func35.trans (congrArg some (by kernel_rfl))⟩
  f11 := ⟨Try.f41.name, by decide, Try.func41.trans (congrArg some (by kernel_rfl))⟩
  t0 := Try.underlying0
  a0 := Try.isAgg0
  z0 := Try.sizeOf0
  v0 := Try.zeroValue0
  t24 := Try.underlying34
  a24 := Try.isAgg34
  z24 := Try.sizeOf34
  v24 := Try.zeroValue34
  t26 := Try.underlying3
  a26 := Try.isAgg3
  z26 := Try.sizeOf3
  v26 := Try.zeroValue3
  t28 := Try.underlying63
  a28 := Try.isAgg63
  z28 := Try.sizeOf63
  v28 := Try.zeroValue63
  i26 := by kernel_rfl }
end Go.Proofs
