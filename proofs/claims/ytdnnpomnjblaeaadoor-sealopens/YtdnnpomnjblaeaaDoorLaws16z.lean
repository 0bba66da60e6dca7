/-
  Layer 16's three walks, and what the row's list of variables gives, side by side.
-/
import Derived.Test.YtdnnpomnjblaeaaDoorLaws16c
import Derived.Test.YtdnnpomnjblaeaaDoorLaid4
namespace Go.Proofs.YtdnnpomnjblaeaaDoor
open Go.RowKit
set_option linter.unusedVariables false

/-- The table outlasts what changes nothing old. -/
theorem table_stays {w w' : World} (q : QTab w) (o : Old w w') : QTab w' := q.mono o
end Go.Proofs.YtdnnpomnjblaeaaDoor
