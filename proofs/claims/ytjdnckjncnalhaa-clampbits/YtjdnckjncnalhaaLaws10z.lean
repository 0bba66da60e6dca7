/-
  The walks of layer 10's statements: its calls are what they owe.
-/
import Derived.Test.YtjdnckjncnalhaaLaws10
import Derived.Test.YtjdnckjncnalhaaClampE
import Derived.Test.YtjdnckjncnalhaaOpenPl
namespace Go.Proofs.Ytjdnckjncnalhaa
open Go.RowKit
set_option linter.unusedVariables false

theorem walk_ClampSound (v0 : Value) (w : World) (w0 : IsPlan w v0) :
    Calls Try.prog 3 #[v0] w fun e w' => e = .returned (.bool true) ∧ Old w w' := walkK_ClampSound clampK v0 w w0

theorem walk_ClampBits (v0 : Value) (w : World) (w0 : IsPlan w v0) :
    Calls Try.prog 4 #[v0] w fun e w' => e = .returned (.bool true) ∧ Old w w' := walkK_ClampBits clampK v0 w w0

theorem walk_ClampKeeps (v0 v1 : Value) (w : World) (w0 : IsPlan w v0) (w1 : IsInt .i64 v1) :
    Calls Try.prog 5 #[v0, v1] w fun e w' => e = .returned (.bool true) ∧ Old w w' := walkK_ClampKeeps clampK v0 v1 w w0 w1

theorem walk_ClampOnce (v0 v1 v2 : Value) (w : World) (w0 : IsPlan w v0) (w1 : IsInt .i64 v1) (w2 : IsInt .i64 v2) :
    Calls Try.prog 6 #[v0, v1, v2] w fun e w' => e = .returned (.bool true) ∧ Old w w' := walkK_ClampOnce clampK v0 v1 v2 w w0 w1 w2
end Go.Proofs.Ytjdnckjncnalhaa
