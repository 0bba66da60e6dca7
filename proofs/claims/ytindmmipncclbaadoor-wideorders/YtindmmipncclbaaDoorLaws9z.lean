/-
  The walks of layer 9's statements: its calls are what they owe.
-/
import Derived.Test.YtindmmipncclbaaDoorLaws9e
import Derived.Test.YtindmmipncclbaaDoorWideT
import Derived.Test.YtindmmipncclbaaDoorLaid9
import Derived.Test.YtindmmipncclbaaDoorOpenW
import Derived.Test.YtindmmipncclbaaDoorLaws9
import Derived.Test.YtindmmipncclbaaDoorLaws9b
import Derived.Test.YtindmmipncclbaaDoorLaws9c
import Derived.Test.YtindmmipncclbaaDoorLaws9d
namespace Go.Proofs.YtindmmipncclbaaDoor
open Go.RowKit
set_option linter.unusedVariables false

theorem walk_WideProducts (v0 v1 : Value) (w : World) (w0 : IsInt .u64 v0) (w1 : IsInt .u64 v1) (T : Tab9 w) :
    Calls Tryd.prog 4 #[v0, v1] w fun e w' => e = .returned (.bool true) ∧ Old w w' := walkK_WideProducts wideK v0 v1 w w0 w1 T

theorem walk_WideShifts (v0 v1 : Value) (w : World) (w0 : IsWide v0) (w1 : IsInt .i64 v1) (T : Tab9 w) :
    Calls Tryd.prog 5 #[v0, v1] w fun e w' => e = .returned (.bool true) ∧ Old w w' := walkK_WideShifts wideK v0 v1 w w0 w1 T

theorem walk_WideSums (v0 v1 : Value) (w : World) (w0 : IsWide v0) (w1 : IsWide v1) (T : Tab9 w) :
    Calls Tryd.prog 3 #[v0, v1] w fun e w' => e = .returned (.bool true) ∧ Old w w' := walkK_WideSums wideK v0 v1 w w0 w1 T

theorem walk_WideOrders (v0 v1 : Value) (w : World) (w0 : IsWide v0) (w1 : IsWide v1) (T : Tab9 w) :
    Calls Tryd.prog 6 #[v0, v1] w fun e w' => e = .returned (.bool true) ∧ Old w w' := walkK_WideOrders wideK v0 v1 w w0 w1 T

theorem walk_WideTexts (v0 : Value) (w : World) (w0 : IsWide v0) (T : Tab9 w) :
    Calls Tryd.prog 7 #[v0] w fun e w' => e = .returned (.bool true) ∧ Old w w' := walkK_WideTexts wideK v0 w w0 T

theorem walk_WideParts (v0 v1 v2 v3 : Value) (w : World) (w0 : IsWide v0) (w1 : IsWide v1) (w2 : IsWide v2) (w3 : IsInt .u8 v3) (T : Tab9 w) :
    Calls Tryd.prog 8 #[v0, v1, v2, v3] w fun e w' => e = .returned (.bool true) ∧ Old w w' := walkK_WideParts wideK v0 v1 v2 v3 w w0 w1 w2 w3 T

theorem walk_WideApart (v0 v1 : Value) (w : World) (w0 : IsWide v0) (w1 : IsWide v1) (T : Tab9 w) :
    Calls Tryd.prog 9 #[v0, v1] w fun e w' => e = .returned (.bool true) ∧ Old w w' := walkK_WideApart wideK v0 v1 w w0 w1 T
end Go.Proofs.YtindmmipncclbaaDoor
