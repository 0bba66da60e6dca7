/-
  The document's numbers of 128 bits (offertoryref09): Shift.
-/
import Derived.Test.YthaaajepolahfaaRefWide
namespace Go.Proofs.Ythaaajepolahfaa
open Go.RowKit Wd
set_option linter.unusedVariables false

theorem R2.put {w : World} {a b : List Nat} {wr : World} (h : R2 w a b wr) (a' : List Nat) {w' : World} (hw : w' = wr.setRow w.heap.size (nums .u32 a').toArray) : R2 w a' b w' := by
  subst hw
  exact ⟨h.a.whole _, h.b.grown (grown_setRow _ _ _) (by omega), h.old.grown (grown_setRow _ _ _) (Nat.le_refl _)⟩
/-- How often it is doubled. -/
def times (n : Int) : Nat := min n.toNat 128

end Go.Proofs.Ythaaajepolahfaa