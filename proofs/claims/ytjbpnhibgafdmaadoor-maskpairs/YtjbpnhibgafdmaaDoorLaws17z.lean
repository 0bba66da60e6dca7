/-
  The walk of MaskPairs and MaskLeft: the landed calls are what they owe.
-/
import Derived.Test.YtjbpnhibgafdmaaDoorMaskE
import Derived.Test.YtjbpnhibgafdmaaDoorLaws17
import Derived.Test.YtjbpnhibgafdmaaDoorLaid4
namespace Go.Proofs.YtjbpnhibgafdmaaDoor
open Go.RowKit
set_option linter.unusedVariables false

theorem walk_MaskPairs (v0 v1 v2 v3 : Value) (w : World) (w0 : IsArr .u8 256 32 v0) (w1 : IsInt .u64 v1) (w2 : IsInt .u64 v2) (w3 : IsInt .i64 v3) (qt : QTab w) :
    Calls Tryd.prog 3 #[v0, v1, v2, v3] w fun e w' => e = .returned (.bool true) ∧ Old w w' := walkK_MaskPairs maskK v0 v1 v2 v3 w w0 w1 w2 w3 qt

theorem walk_MaskLeft (v0 v1 v2 v3 : Value) (w : World) (w0 : IsInt .i64 v0) (w1 : IsInt .u64 v1) (w2 : IsCards w v2) (w3 : IsInt .i64 v3) (qt : QTab w) :
    Calls Tryd.prog 5 #[v0, v1, v2, v3] w fun e w' => e = .returned (.bool true) ∧ Old w w' := walkK_MaskLeft maskK v0 v1 v2 v3 w w0 w1 w2 w3 qt
end Go.Proofs.YtjbpnhibgafdmaaDoor
