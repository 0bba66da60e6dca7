/-
  What the row's list of variables gives: the library's table of powers of ten lies in the world as its initialiser lays it.
-/
import Derived.Test.YtindmmipncclbaaDoorRows
import Derived.Test.YtindmmipncclbaaDoorWideC
import Derived.Stop.LaidErr
namespace Go.Proofs.YtindmmipncclbaaDoor
set_option linter.unusedVariables false

theorem laid_facts {W : World} (h : laidMetH Tryd.prog [("math/bits.deBruijn32tab", Rows.laid_math_bits_deBruijn32tab), ("math/bits.deBruijn64tab", Rows.laid_math_bits_deBruijn64tab), ("internal/strconv.uint64pow10", Rows.laid_internal_strconv_uint64pow10)] W) : Tab9 W := by
  have h' : laidMet Tryd.prog [("math/bits.deBruijn32tab", Rows.laid_math_bits_deBruijn32tab), ("math/bits.deBruijn64tab", Rows.laid_math_bits_deBruijn64tab), ("internal/strconv.uint64pow10", Rows.laid_internal_strconv_uint64pow10)] W := h
  have h2 : laidMet Tryd.prog [("internal/strconv.uint64pow10", Lib.tabData .u64 Lib.pow10Tab)] W := h'.tail.tail
  exact Lib.tabIs_of_head (g := 2) (t := 81) (e := 22) (n := 20) (by kernel_rfl) (by kernel_rfl) Tryd.underlying81 Tryd.underlying22 (by kernel_rfl) (by kernel_rfl) h2
end Go.Proofs.YtindmmipncclbaaDoor
