/-
  The walks of layer 18's statements: its calls are what they owe.
-/
import Derived.Test.YtgaphbncefphbaaDoorLaws18c
import Derived.Test.YtgaphbncefphbaaDoorLaws18d
import Derived.Test.YtgaphbncefphbaaDoorCrowdE
import Derived.Test.YtgaphbncefphbaaDoorLaid12
namespace Go.Proofs.YtgaphbncefphbaaDoor
open Go.RowKit
set_option linter.unusedVariables false

theorem walk_CrowdOf (v0 v1 : Value) (w : World) (w0 : IsSam w v0) (w1 : IsInt .i64 v1) (T : Tab w) :
    Calls Tryd.prog 3 #[v0, v1] w fun e w' => e = .returned (.bool true) ∧ Old w w' := walkK_CrowdOf crowdK v0 v1 w w0 w1 T

theorem walk_CrowdLists (v0 : Value) (w : World) (w0 : IsInt .u64 v0) (T : Tab w) :
    Calls Tryd.prog 4 #[v0] w fun e w' => e = .returned (.bool true) ∧ Old w w' := walkK_CrowdLists crowdK v0 w w0 T

theorem walk_CrowdWithin (v0 v1 v2 : Value) (w : World) (w0 : IsInt .u64 v0) (w1 : IsInt .u64 v1) (w2 : IsInt .i64 v2) (T : Tab w) :
    Calls Tryd.prog 5 #[v0, v1, v2] w fun e w' => e = .returned (.bool true) ∧ Old w w' := walkK_CrowdWithin crowdK v0 v1 v2 w w0 w1 w2 T

theorem walk_CrowdBack (v0 : Value) (w : World) (w0 : IsInt .u64 v0) (T : Tab w) :
    Calls Tryd.prog 6 #[v0] w fun e w' => e = .returned (.bool true) ∧ Old w w' := walkK_CrowdBack crowdK v0 w w0 T

theorem walk_CrowdParts (v0 v1 v2 : Value) (w : World) (w0 : IsInt .u64 v0) (w1 : IsInt .u64 v1) (w2 : IsInt .i64 v2) (T : Tab w) :
    Calls Tryd.prog 7 #[v0, v1, v2] w fun e w' => e = .returned (.bool true) ∧ Old w w' := walkK_CrowdParts crowdK v0 v1 v2 w w0 w1 w2 T
end Go.Proofs.YtgaphbncefphbaaDoor
