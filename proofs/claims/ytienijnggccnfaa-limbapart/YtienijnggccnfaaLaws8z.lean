/-
  The walks of layer 8's statements: its calls are what they owe.
-/
import Derived.Test.YtienijnggccnfaaLaws8b
import Derived.Test.YtienijnggccnfaaLimbD
namespace Go.Proofs.Ytienijnggccnfaa
open Go.RowKit
set_option linter.unusedVariables false

theorem walk_LimbCuts (v0 : Value) (w : World) (w0 : IsArr .u8 256 32 v0) :
    Calls Try.prog 3 #[v0] w fun e w' => e = .returned (.bool true) ∧ Old w w' := walkK_LimbCuts limbK v0 w w0

theorem walk_LimbGlues (v0 : Value) (w : World) (w0 : IsArr .u64 18446744073709551616 5 v0) :
    Calls Try.prog 4 #[v0] w fun e w' => e = .returned (.bool true) ∧ Old w w' := walkK_LimbGlues limbK v0 w w0

theorem walk_LimbApart (v0 v1 : Value) (w : World) (w0 : IsArr .u8 256 32 v0) (w1 : IsArr .u8 256 32 v1) :
    Calls Try.prog 6 #[v0, v1] w fun e w' => e = .returned (.bool true) ∧ Old w w' := walkK_LimbApart limbK v0 v1 w w0 w1

theorem walk_LimbBack (v0 v1 : Value) (w : World) (w0 : IsArr .u8 256 32 v0) (w1 : IsArr .u64 18446744073709551616 5 v1) :
    Calls Try.prog 5 #[v0, v1] w fun e w' => e = .returned (.bool true) ∧ Old w w' := walkK_LimbBack limbK v0 v1 w w0 w1
end Go.Proofs.Ytienijnggccnfaa
