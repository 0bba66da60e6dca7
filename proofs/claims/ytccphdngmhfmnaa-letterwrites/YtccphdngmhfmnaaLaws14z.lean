/-
  The walks of layer 14's statements: its calls are what they owe.
-/
import Derived.Test.YtccphdngmhfmnaaLaws14
import Derived.Test.YtccphdngmhfmnaaLaws14b
import Derived.Test.YtccphdngmhfmnaaLaws14c
import Derived.Test.YtccphdngmhfmnaaLaws14d
import Derived.Test.YtccphdngmhfmnaaLetterI
import Derived.Test.YtccphdngmhfmnaaOpenPt
namespace Go.Proofs.Ytccphdngmhfmnaa
open Go.RowKit
set_option linter.unusedVariables false

theorem walk_LetterNone (v0 v1 v2 : Value) (w : World) (w0 : IsInt .i64 v0) (w1 : IsInt .u64 v1) (w2 : IsNums .u8 256 140737488351232 w v2) :
    Calls Try.prog 7 #[v0, v1, v2] w fun e w' => e = .returned (.bool true) ∧ Old w w' := walkK_LetterNone letterK v0 v1 v2 w w0 w1 w2

theorem walk_LetterChecks (v0 : Value) (w : World) (w0 : IsNums .u8 256 140737488351232 w v0) :
    Calls Try.prog 5 #[v0] w fun e w' => e = .returned (.bool true) ∧ Old w w' := walkK_LetterChecks letterK v0 w w0

theorem walk_LetterBent (v0 v1 : Value) (w : World) (w0 : IsNums .u8 256 140737488351232 w v0) (w1 : IsInt .u16 v1) :
    Calls Try.prog 6 #[v0, v1] w fun e w' => e = .returned (.bool true) ∧ Old w w' := walkK_LetterBent letterK v0 v1 w w0 w1

theorem walk_LetterReads (v0 v1 : Value) (w : World) (w0 : IsNums .u8 256 140737488351232 w v0) (w1 : IsNums .u8 256 140737488351232 w v1) :
    Calls Try.prog 4 #[v0, v1] w fun e w' => e = .returned (.bool true) ∧ Old w w' := walkK_LetterReads letterK v0 v1 w w0 w1

theorem walk_LetterWrites (v0 : Value) (w : World) (w0 : IsParts w v0) :
    Calls Try.prog 3 #[v0] w fun e w' => e = .returned (.bool true) ∧ Old w w' := walkK_LetterWrites letterK v0 w w0
end Go.Proofs.Ytccphdngmhfmnaa
