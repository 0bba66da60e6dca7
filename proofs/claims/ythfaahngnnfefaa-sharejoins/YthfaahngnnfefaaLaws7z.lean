/-
  The walks of layer 7's statements: its calls are what they owe.
-/
import Derived.Test.YthfaahngnnfefaaLaws7d
import Derived.Test.YthfaahngnnfefaaShareG
namespace Go.Proofs.Ythfaahngnnfefaa
open Go.RowKit
set_option linter.unusedVariables false

theorem walk_ShareJoins (v0 v1 : Value) (w : World) (w0 : IsInt .i64 v0) (w1 : IsPts 8796093021952 w v1) :
    Calls Try.prog 4 #[v0, v1] w fun e w' => e = .returned (.bool true) ∧ Old w w' := walkK_ShareJoins shareK v0 v1 w w0 w1

theorem walk_ShareFits (v0 v1 : Value) (w : World) (w0 : IsInt .i64 v0) (w1 : IsPts 8796093021952 w v1) :
    Calls Try.prog 5 #[v0, v1] w fun e w' => e = .returned (.bool true) ∧ Old w w' := walkK_ShareFits shareK v0 v1 w w0 w1

theorem walk_ShareSplits (v0 v1 v2 v3 : Value) (w : World) (w0 : IsInt .u64 v0) (w1 : IsInt .i64 v1) (w2 : IsInt .i64 v2) (w3 : IsNums .u64 18446744073709551616 17592186043904 w v3) :
    Calls Try.prog 3 #[v0, v1, v2, v3] w fun e w' => e = .returned (.bool true) ∧ Old w w' := walkK_ShareSplits shareK v0 v1 v2 v3 w w0 w1 w2 w3

theorem walk_ShareHides (v0 v1 v2 : Value) (w : World) (w0 : IsInt .u64 v0) (w1 : IsInt .i64 v1) (w2 : IsPts 8796093021952 w v2) :
    Calls Try.prog 7 #[v0, v1, v2] w fun e w' => e = .returned (.bool true) ∧ Old w w' := walkK_ShareHides shareK v0 v1 v2 w w0 w1 w2

theorem walk_ShareBack (v0 v1 v2 v3 : Value) (w : World) (w0 : IsInt .u64 v0) (w1 : IsNums .u64 18446744073709551616 17592186043904 w v1) (w2 : IsInt .u8 v2) (w3 : IsInt .u8 v3) :
    Calls Try.prog 6 #[v0, v1, v2, v3] w fun e w' => e = .returned (.bool true) ∧ Old w w' := walkK_ShareBack shareK v0 v1 v2 v3 w w0 w1 w2 w3

theorem walk_ShareOnce (v0 v1 v2 v3 : Value) (w : World) (w0 : IsInt .u64 v0) (w1 : IsNums .u64 18446744073709551616 17592186043904 w v1) (w2 : IsInt .u8 v2) (w3 : IsInt .u64 v3) :
    Calls Try.prog 8 #[v0, v1, v2, v3] w fun e w' => e = .returned (.bool true) ∧ Old w w' := walkK_ShareOnce shareK v0 v1 v2 v3 w w0 w1 w2 w3
end Go.Proofs.Ythfaahngnnfefaa
