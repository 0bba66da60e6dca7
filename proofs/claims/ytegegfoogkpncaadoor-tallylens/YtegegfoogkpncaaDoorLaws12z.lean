/-
  The walks of layer 12's statements: its calls are what they owe.
-/
import Derived.Test.YtegegfoogkpncaaDoorLaws12d
import Derived.Test.YtegegfoogkpncaaDoorTallyD
import Derived.Test.YtegegfoogkpncaaDoorOpenPl
import Derived.Test.YtegegfoogkpncaaDoorLaid12
namespace Go.Proofs.YtegegfoogkpncaaDoor
open Go.RowKit
set_option linter.unusedVariables false

theorem walk_TallyLens (v0 : Value) (w : World) (w0 : IsPlan w v0) (T : Tab w) :
    Calls Tryd.prog 3 #[v0] w fun e w' => e = .returned (.bool true) ∧ Old w w' := walkK_TallyLens tallyK v0 w w0 T

theorem walk_TallyWrites (v0 v1 : Value) (w : World) (w0 : IsPlan w v0) (w1 : IsSam w v1) (T : Tab w) :
    Calls Tryd.prog 4 #[v0, v1] w fun e w' => e = .returned (.bool true) ∧ Old w w' := walkK_TallyWrites tallyK v0 v1 w w0 w1 T

theorem walk_TallyCounts (v0 v1 : Value) (w : World) (w0 : IsPlan w v0) (w1 : IsSam w v1) (T : Tab w) :
    Calls Tryd.prog 7 #[v0, v1] w fun e w' => e = .returned (.bool true) ∧ Old w w' := walkK_TallyCounts tallyK v0 v1 w w0 w1 T

theorem walk_TallyAdds (v0 v1 v2 : Value) (w : World) (w0 : IsPlan w v0) (w1 : IsSam w v1) (w2 : IsSam w v2) (T : Tab w) :
    Calls Tryd.prog 5 #[v0, v1, v2] w fun e w' => e = .returned (.bool true) ∧ Old w w' := walkK_TallyAdds tallyK v0 v1 v2 w w0 w1 w2 T

theorem walk_TallyOrder (v0 v1 v2 : Value) (w : World) (w0 : IsPlan w v0) (w1 : IsSam w v1) (w2 : IsInt .i64 v2) (T : Tab w) :
    Calls Tryd.prog 6 #[v0, v1, v2] w fun e w' => e = .returned (.bool true) ∧ Old w w' := walkK_TallyOrder tallyK v0 v1 v2 w w0 w1 w2 T
end Go.Proofs.YtegegfoogkpncaaDoor
