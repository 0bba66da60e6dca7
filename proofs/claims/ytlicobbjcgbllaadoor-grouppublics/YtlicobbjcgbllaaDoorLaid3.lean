/-
  What the row's list of variables gives: the package's table of primes lies in the world as its initialiser lays it.
-/
import Derived.Test.YtlicobbjcgbllaaDoorRows
import Derived.Test.YtlicobbjcgbllaaDoorGroup
import Derived.Lib.LaidTab
namespace Go.Proofs.YtlicobbjcgbllaaDoor
set_option linter.unusedVariables false

theorem laid_facts {W : World} (h : laidMetH Tryd.prog [("offertory/group.factors", Rows.laid_offertory_group_factors)] W) : Tab W := by
  have gTab : Tryd.prog.globalNamed "offertory/group.factors" = some 0 := by kernel_rfl
  have gTy : (Tryd.prog.globals[0]?).map (·.type) = some 40 := by kernel_rfl
  have ct : Tryd.prog.cellsOf 40 = 14 := by kernel_rfl
  have ce : Tryd.prog.cellsOf 22 = 1 := by kernel_rfl
  have t : Lib.TabIs Tryd.prog W "offertory/group.factors" .u64 [2, 3, 3, 5, 5, 7, 11, 13, 31, 41, 61, 151, 331, 1321] :=
    Lib.tabIs_of_head (rest := []) gTab gTy Tryd.underlying40 Tryd.underlying22 ce ct h
  unfold Lib.TabIs World.var? at t
  rw [gTab, Option.bind_some] at t
  split at t
  · rename_i cs ty fr he
    refine ⟨ty, fr, ?_⟩
    rw [he]
    obtain rfl := Option.some.inj t
    rfl
  · cases t
end Go.Proofs.YtlicobbjcgbllaaDoor
