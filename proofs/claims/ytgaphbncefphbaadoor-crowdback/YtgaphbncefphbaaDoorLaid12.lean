/-
  What the row's list of variables gives: the library's table of trailing zeros lies in the world as its initialiser lays it.
-/
import Derived.Test.YtgaphbncefphbaaDoorRows
import Derived.Test.YtgaphbncefphbaaDoorTab
import Derived.Lib.LaidTab
import Derived.Stop.LaidErr
namespace Go.Proofs.YtgaphbncefphbaaDoor
set_option linter.unusedVariables false

theorem tab_len : (Lib.deBruijn64tab.map Int.ofNat).length = Lib.deBruijn64tab.length := List.length_map ..
theorem laid_facts {W : World} (h : laidMetH Tryd.prog [("math/bits.deBruijn64tab", Rows.laid_math_bits_deBruijn64tab)] W) : Tab W := by
  have h2 : laidMet Tryd.prog [("math/bits.deBruijn64tab", Lib.tabData .u8 (Lib.deBruijn64tab.map Int.ofNat))] W := h
  have t := Lib.tabIs_of_head (g := 0) (t := 47) (e := 5) (n := 64) (by kernel_rfl) (by kernel_rfl) Tryd.underlying47 Tryd.underlying5 (by kernel_rfl) (by kernel_rfl) h2
  intro j hj
  rw [t.cell (by kernel_rfl) j (by rw [tab_len]; exact hj)]
  simp [List.getD, hj]
end Go.Proofs.YtgaphbncefphbaaDoor
