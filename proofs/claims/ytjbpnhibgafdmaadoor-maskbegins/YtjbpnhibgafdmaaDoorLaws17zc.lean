/-
  The walk of MaskBegins: the landed calls are what they owe.
-/
import Derived.Test.YtjbpnhibgafdmaaDoorMgMask
import Derived.Test.YtjbpnhibgafdmaaDoorLaws17c
import Derived.Test.YtjbpnhibgafdmaaDoorLaid4
namespace Go.Proofs.YtjbpnhibgafdmaaDoor
open Go.RowKit
set_option linter.unusedVariables false

theorem walk_MaskBegins (v0 v1 v2 v3 v4 : Value) (w : World) (w0 : IsArr .u8 256 32 v0) (w1 : IsInt .u64 v1) (w2 : IsInt .u64 v2) (w3 : IsInt .u8 v3) (w4 : IsInt .u8 v4) (qt : QTab w) :
    Calls Tryd.prog 7 #[v0, v1, v2, v3, v4] w fun e w' => e = .returned (.bool true) ∧ Old w w' := walkK_MaskBegins maskK v0 v1 v2 v3 v4 w w0 w1 w2 w3 w4 qt
end Go.Proofs.YtjbpnhibgafdmaaDoor
