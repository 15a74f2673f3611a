/- Contracts of the library at this translation: maps cloned, their keys, texts sorted: each is one application of a compiled contract. -/
import Derived.Shelf.SlMaps.Clone
import Derived.Ground.SlmcProg
import Derived.Test.YtgknihcpmpfocaaDoorProg
namespace Go.Proofs
open Go.Shelf
def Tryd.cloneM45_ren : Go.Shelf.Ren := ⟨fun | 5 => 45 | 7 => 56 | n => n, fun | 23 => 67 | 25 => 9 | 3 => 82 | 4 => 4 | 20 => 20 | n => n, fun | n => n⟩
theorem Tryd.cloneM45 : Go.Proofs.SlLaysW.n5 Tryd.prog Tryd.cloneM45_ren := {
  mixed := by kernel_rfl
  f5 := ⟨Tryd.f45.name, by decide, Tryd.func45.trans (congrArg some (by kernel_rfl))⟩
  f7 := Tryd.func56.trans (congrArg some (by kernel_rfl))
  t4 := Tryd.underlying4
  a4 := Tryd.isAgg4
  z4 := Tryd.sizeOf4
  v4 := Tryd.zeroValue4
  t20 := Tryd.underlying20
  a20 := Tryd.isAgg20
  z20 := Tryd.sizeOf20
  v20 := Tryd.zeroValue20
  t23 := Tryd.underlying67
  a23 := Tryd.isAgg67
  z23 := Tryd.sizeOf67
  v23 := Tryd.zeroValue67 }
end Go.Proofs
