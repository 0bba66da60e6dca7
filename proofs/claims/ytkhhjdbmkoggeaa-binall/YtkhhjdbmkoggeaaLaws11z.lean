/-
  The walks of layer 11's statements: its calls are what they owe.
-/
import Derived.Test.YtkhhjdbmkoggeaaLaws11c
import Derived.Test.YtkhhjdbmkoggeaaBinD
import Derived.Test.YtkhhjdbmkoggeaaOpenPl
namespace Go.Proofs.Ytkhhjdbmkoggeaa
open Go.RowKit
set_option linter.unusedVariables false

theorem walk_BinFinds (v0 v1 : Value) (w : World) (w0 : IsPlan w v0) (w1 : IsInt .i64 v1) :
    Calls Try.prog 3 #[v0, v1] w fun e w' => e = .returned (.bool true) ∧ Old w w' := walkK_BinFinds binK v0 v1 w w0 w1

theorem walk_BinRises (v0 v1 v2 : Value) (w : World) (w0 : IsPlan w v0) (w1 : IsInt .i64 v1) (w2 : IsInt .i64 v2) :
    Calls Try.prog 5 #[v0, v1, v2] w fun e w' => e = .returned (.bool true) ∧ Old w w' := walkK_BinRises binK v0 v1 v2 w w0 w1 w2

theorem walk_BinCounts (v0 v1 : Value) (w : World) (w0 : IsPlan w v0) (w1 : IsSam w v1) :
    Calls Try.prog 4 #[v0, v1] w fun e w' => e = .returned (.bool true) ∧ Old w w' := walkK_BinCounts binK v0 v1 w w0 w1

theorem walk_BinAll (v0 v1 v2 : Value) (w : World) (w0 : IsPlan w v0) (w1 : IsSam w v1) (w2 : IsInt .i64 v2) :
    Calls Try.prog 6 #[v0, v1, v2] w fun e w' => e = .returned (.bool true) ∧ Old w w' := walkK_BinAll binK v0 v1 v2 w w0 w1 w2
end Go.Proofs.Ytkhhjdbmkoggeaa
