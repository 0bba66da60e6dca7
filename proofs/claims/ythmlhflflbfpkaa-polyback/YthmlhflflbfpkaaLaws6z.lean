/-
  The walks of layer 6's statements: its calls are what they owe.
-/
import Derived.Test.YthmlhflflbfpkaaLaws6b
import Derived.Test.YthmlhflflbfpkaaPolyThru
namespace Go.Proofs.Ythmlhflflbfpkaa
open Go.RowKit
set_option linter.unusedVariables false

theorem walk_PolyValues (v0 v1 : Value) (w : World) (w0 : IsNums .u64 18446744073709551616 17592186043904 w v0) (w1 : IsInt .u64 v1) :
    Calls Try.prog 3 #[v0, v1] w fun e w' => e = .returned (.bool true) ∧ Old w w' := walkK_PolyValues polyK v0 v1 w w0 w1

theorem walk_PolySums (v0 v1 v2 : Value) (w : World) (w0 : IsNums .u64 18446744073709551616 17592186043904 w v0) (w1 : IsNums .u64 18446744073709551616 17592186043904 w v1) (w2 : IsInt .u64 v2) :
    Calls Try.prog 4 #[v0, v1, v2] w fun e w' => e = .returned (.bool true) ∧ Old w w' := walkK_PolySums polyK v0 v1 v2 w w0 w1 w2

theorem walk_PolyThrough (v0 v1 : Value) (w : World) (w0 : IsPts 8796093021952 w v0) (w1 : IsInt .u64 v1) :
    Calls Try.prog 5 #[v0, v1] w fun e w' => e = .returned (.bool true) ∧ Old w w' := walkK_PolyThrough polyK v0 v1 w w0 w1

theorem walk_PolyZeros (v0 : Value) (w : World) (w0 : IsPts 8796093021952 w v0) :
    Calls Try.prog 6 #[v0] w fun e w' => e = .returned (.bool true) ∧ Old w w' := walkK_PolyZeros polyK v0 w w0

theorem walk_PolyBack (v0 v1 : Value) (w : World) (w0 : IsNums .u64 18446744073709551616 17592186043904 w v0) (w1 : IsInt .u8 v1) :
    Calls Try.prog 7 #[v0, v1] w fun e w' => e = .returned (.bool true) ∧ Old w w' := walkK_PolyBack polyK v0 v1 w w0 w1

theorem walk_PolyRoots (v0 v1 : Value) (w : World) (w0 : IsNums .u64 18446744073709551616 17592186043904 w v0) (w1 : IsInt .u64 v1) :
    Calls Try.prog 8 #[v0, v1] w fun e w' => e = .returned (.bool true) ∧ Old w w' := walkK_PolyRoots polyK v0 v1 w w0 w1
end Go.Proofs.Ythmlhflflbfpkaa
