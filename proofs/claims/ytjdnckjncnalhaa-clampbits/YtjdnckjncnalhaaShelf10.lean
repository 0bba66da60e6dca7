/-
  The library's contract of math/bits.Len64, laid at this program.
-/
import Derived.Test.YtjdnckjncnalhaaProg
import Derived.Shelf.Strconv.Itoa0
namespace Go.Proofs.Ytjdnckjncnalhaa
set_option linter.unusedVariables false

def shelfRen10 : Go.Shelf.Ren := ⟨fun | 0 => 0 | 1 => 1 | 2 => 2 | 129 => 16 | 347 => 22 | 348 => 23 | 349 => 24 | 350 => 25 | 351 => 26 | 352 => 27 | 353 => 28 | 354 => 29 | 355 => 30 | 356 => 31 | 357 => 32 | 358 => 33 | 359 => 34 | 360 => 35 | 361 => 36 | 366 => 37 | n => n,
  fun | 0 => 0 | 1 => 1 | 2 => 2 | 3 => 3 | 4 => 4 | 5 => 5 | 6 => 6 | 7 => 7 | 8 => 8 | 9 => 9 | 10 => 10 | 11 => 11 | 12 => 12 | 13 => 13 | 14 => 14 | 15 => 15 | 16 => 16 | 17 => 17 | 18 => 18 | 19 => 19 | 20 => 20 | 21 => 21 | 28 => 22 | 46 => 44 | 51 => 53 | 53 => 33 | 54 => 42 | 80 => 46 | 81 => 52 | 114 => 45 | 127 => 57 | 164 => 62 | 220 => 43 | 238 => 47 | 239 => 48 | 240 => 49 | 241 => 50 | 242 => 51 | 243 => 54 | 244 => 55 | 245 => 56 | 246 => 58 | 247 => 59 | 248 => 60 | 249 => 61 | n => n,
  fun  | n => n⟩

theorem len64Lays10 : Go.Proofs.Lays.n129 Try.prog shelfRen10 := {
  mixed := by kernel_rfl
  f129 := Try.func16.trans (congrArg some (by kernel_rfl))
  t3 := Try.underlying3
  a3 := Try.isAgg3
  z3 := Try.sizeOf3
  v3 := Try.zeroValue3
  t4 := Try.underlying4
  a4 := Try.isAgg4
  z4 := Try.sizeOf4
  v4 := Try.zeroValue4
  t5 := Try.underlying5
  a5 := Try.isAgg5
  z5 := Try.sizeOf5
  v5 := Try.zeroValue5
  t9 := Try.underlying9
  a9 := Try.isAgg9
  z9 := Try.sizeOf9
  v9 := Try.zeroValue9
  t46 := Try.underlying44
  a46 := Try.isAgg44
  z46 := Try.sizeOf44
  v46 := Try.zeroValue44
  t53 := Try.underlying33
  a53 := Try.isAgg33
  z53 := Try.sizeOf33
  v53 := Try.zeroValue33 }

end Go.Proofs.Ytjdnckjncnalhaa
