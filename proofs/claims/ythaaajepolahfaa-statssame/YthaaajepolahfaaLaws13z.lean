/-
  The walks of layer 13's statements: its calls are what they owe.
-/
import Derived.Test.YthaaajepolahfaaLaws13
import Derived.Test.YthaaajepolahfaaStatsD
import Derived.Test.YthaaajepolahfaaOpenSt
namespace Go.Proofs.Ythaaajepolahfaa
open Go.RowKit
set_option linter.unusedVariables false

theorem walk_StatsSame (v0 v1 : Value) (w : World) (w0 : IsStats w v0) (w1 : IsStats w v1) :
    Calls Try.prog 6 #[v0, v1] w fun e w' => e = .returned (.bool true) ∧ Old w w' := walkK_StatsSame statsK v0 v1 w w0 w1
end Go.Proofs.Ythaaajepolahfaa
