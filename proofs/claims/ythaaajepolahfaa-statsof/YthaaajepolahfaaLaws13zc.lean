/-
  The walks of layer 13's statements: its calls are what they owe.
-/
import Derived.Test.YthaaajepolahfaaLaws13c
import Derived.Test.YthaaajepolahfaaStatsD
import Derived.Test.YthaaajepolahfaaOpenSt
namespace Go.Proofs.Ythaaajepolahfaa
open Go.RowKit
set_option linter.unusedVariables false

theorem walk_StatsOf (v0 v1 : Value) (w : World) (w0 : IsPlan w v0) (w1 : IsSam w v1) :
    Calls Try.prog 3 #[v0, v1] w fun e w' => e = .returned (.bool true) ∧ Old w w' := walkK_StatsOf statsK v0 v1 w w0 w1
end Go.Proofs.Ythaaajepolahfaa
