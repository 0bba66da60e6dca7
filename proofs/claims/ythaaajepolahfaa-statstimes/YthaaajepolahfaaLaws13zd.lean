/-
  The walks of layer 13's statements: its calls are what they owe.
-/
import Derived.Test.YthaaajepolahfaaLaws13d
import Derived.Test.YthaaajepolahfaaStatsD
import Derived.Test.YthaaajepolahfaaOpenSt
namespace Go.Proofs.Ythaaajepolahfaa
open Go.RowKit
set_option linter.unusedVariables false

theorem walk_StatsTimes (v0 v1 v2 : Value) (w : World) (w0 : IsPlan w v0) (w1 : IsSam w v1) (w2 : IsInt .u32 v2) :
    Calls Try.prog 7 #[v0, v1, v2] w fun e w' => e = .returned (.bool true) ∧ Old w w' := walkK_StatsTimes statsK v0 v1 v2 w w0 w1 w2
end Go.Proofs.Ythaaajepolahfaa
