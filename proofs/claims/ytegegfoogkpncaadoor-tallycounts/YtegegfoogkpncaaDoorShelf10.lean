/-
  The library's contract of math/bits.Len64, laid at this program.
-/
import Derived.Test.YtegegfoogkpncaaDoorProg
import Derived.Shelf.Strconv.Itoa0
namespace Go.Proofs.YtegegfoogkpncaaDoor
set_option linter.unusedVariables false

def shelfRen10 : Go.Shelf.Ren := ⟨fun | 0 => 0 | 1 => 1 | 2 => 2 | 129 => 34 | 347 => 46 | 348 => 47 | 349 => 48 | 350 => 49 | 351 => 50 | 352 => 51 | 353 => 52 | 354 => 53 | 355 => 54 | 356 => 55 | 357 => 56 | 358 => 57 | 359 => 58 | 360 => 59 | 361 => 60 | 366 => 62 | n => n,
  fun | 0 => 0 | 1 => 1 | 2 => 2 | 3 => 3 | 4 => 4 | 5 => 5 | 6 => 6 | 7 => 7 | 8 => 8 | 9 => 9 | 10 => 10 | 11 => 11 | 12 => 12 | 13 => 13 | 14 => 14 | 15 => 15 | 16 => 16 | 17 => 17 | 18 => 18 | 19 => 19 | 20 => 20 | 21 => 21 | 28 => 22 | 46 => 60 | 51 => 38 | 53 => 53 | 54 => 70 | 80 => 79 | 81 => 45 | 114 => 73 | 127 => 88 | 164 => 94 | 220 => 71 | 238 => 80 | 239 => 81 | 240 => 82 | 241 => 83 | 242 => 84 | 243 => 85 | 244 => 86 | 245 => 87 | 246 => 89 | 247 => 90 | 248 => 91 | 249 => 92 | n => n,
  fun  | n => n⟩

theorem len64Lays10 : Go.Proofs.Lays.n129 Tryd.prog shelfRen10 := {
  mixed := by kernel_rfl
  f129 := Tryd.func34.trans (congrArg some (by kernel_rfl))
  t3 := Tryd.underlying3
  a3 := Tryd.isAgg3
  z3 := Tryd.sizeOf3
  v3 := Tryd.zeroValue3
  t4 := Tryd.underlying4
  a4 := Tryd.isAgg4
  z4 := Tryd.sizeOf4
  v4 := Tryd.zeroValue4
  t5 := Tryd.underlying5
  a5 := Tryd.isAgg5
  z5 := Tryd.sizeOf5
  v5 := Tryd.zeroValue5
  t9 := Tryd.underlying9
  a9 := Tryd.isAgg9
  z9 := Tryd.sizeOf9
  v9 := Tryd.zeroValue9
  t46 := Tryd.underlying60
  a46 := Tryd.isAgg60
  z46 := Tryd.sizeOf60
  v46 := Tryd.zeroValue60
  t53 := Tryd.underlying53
  a53 := Tryd.isAgg53
  z53 := Tryd.sizeOf53
  v53 := Tryd.zeroValue53 }

end Go.Proofs.YtegegfoogkpncaaDoor
