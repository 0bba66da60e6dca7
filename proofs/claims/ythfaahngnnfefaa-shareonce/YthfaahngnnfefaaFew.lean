/-
  offertorylaw06.few, offertorylaw06.some: no more than some numbers, or points.
-/
import Derived.Test.YthfaahngnnfefaaRefPoints
namespace Go.Proofs.Ythfaahngnnfefaa
open Go.RowKit
set_option linter.unusedVariables false

theorem rd_take64 {w : World} {a : Option Addr} {k : IntKind} {xs : List Nat} (h : Rd w a (nums k xs)) (m : Nat) : Rd w a (nums k (xs.take m)) := by
  intro i v hv
  refine h i v ?_
  unfold nums at *
  rw [List.map_take, List.getElem?_take] at hv
  split at hv
  · exact hv
  · cases hv



end Go.Proofs.Ythfaahngnnfefaa