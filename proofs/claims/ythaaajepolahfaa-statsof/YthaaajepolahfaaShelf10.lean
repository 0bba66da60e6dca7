/-
  The library's contract of math/bits.Len64, laid at this program.
-/
import Derived.Test.YthaaajepolahfaaProg
import Derived.Shelf.Strconv.Itoa0
namespace Go.Proofs.Ythaaajepolahfaa
set_option linter.unusedVariables false

def shelfRen10 : Go.Shelf.Ren := ⟨fun | 0 => 0 | 1 => 1 | 2 => 2 | 129 => 63 | 347 => 67 | 348 => 68 | 349 => 69 | 350 => 70 | 351 => 71 | 352 => 72 | 353 => 73 | 354 => 74 | 355 => 75 | 356 => 76 | 357 => 77 | 358 => 78 | 359 => 79 | 360 => 80 | 361 => 81 | 366 => 82 | n => n,
  fun | 0 => 0 | 1 => 1 | 2 => 2 | 3 => 3 | 4 => 4 | 5 => 5 | 6 => 6 | 7 => 7 | 8 => 8 | 9 => 9 | 10 => 10 | 11 => 11 | 12 => 12 | 13 => 13 | 14 => 14 | 15 => 15 | 16 => 16 | 17 => 17 | 18 => 18 | 19 => 19 | 20 => 20 | 21 => 21 | 28 => 22 | 46 => 65 | 51 => 43 | 53 => 25 | 54 => 96 | 80 => 98 | 81 => 95 | 114 => 70 | 127 => 107 | 164 => 112 | 220 => 83 | 238 => 99 | 239 => 100 | 240 => 101 | 241 => 102 | 242 => 103 | 243 => 104 | 244 => 105 | 245 => 106 | 246 => 108 | 247 => 109 | 248 => 110 | 249 => 111 | n => n,
  fun  | n => n⟩

theorem len64Lays10 : Go.Proofs.Lays.n129 Try.prog shelfRen10 := {
  mixed := by kernel_rfl
  f129 := Try.func63.trans (congrArg some (by kernel_rfl))
  t3 := Try.underlying3
  a3 := Try.isAgg3
  z3 := Try.sizeOf3
  v3 := Try.zeroValue3
  t4 := Try.underlying4
  a4 := Try.isAgg4
  z4 := Try.sizeOf4
  v4 := Try.zeroValue4
  t5 := Try.underlying5
  a5 := Try.isAgg5
  z5 := Try.sizeOf5
  v5 := Try.zeroValue5
  t9 := Try.underlying9
  a9 := Try.isAgg9
  z9 := Try.sizeOf9
  v9 := Try.zeroValue9
  t46 := Try.underlying65
  a46 := Try.isAgg65
  z46 := Try.sizeOf65
  v46 := Try.zeroValue65
  t53 := Try.underlying25
  a53 := Try.isAgg25
  z53 := Try.sizeOf25
  v53 := Try.zeroValue25 }

end Go.Proofs.Ythaaajepolahfaa
