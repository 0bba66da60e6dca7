/-
  The walk of MaskHides: the landed calls are what they owe.
-/
import Derived.Test.YtjbpnhibgafdmaaDoorMaskE
import Derived.Test.YtjbpnhibgafdmaaDoorLaws17b
import Derived.Test.YtjbpnhibgafdmaaDoorLaid4
namespace Go.Proofs.YtjbpnhibgafdmaaDoor
open Go.RowKit
set_option linter.unusedVariables false

theorem more {k : IntKind} {B : Nat} {w : World} {v : Value} (h : IsNums k B 35184372087808 w v) : IsNums k B 35184372088832 w v := by
  obtain ⟨a, n, cap, xs, h1, h2, h3, h4, h5, h6⟩ := h
  exact ⟨a, n, cap, xs, h1, h2, h3, h4, by omega, h6⟩

theorem walk_MaskHides (v0 v1 v2 v3 v4 : Value) (w : World) (w0 : IsNums .u32 4294967296 35184372087808 w v0) (w1 : IsInt .i64 v1) (w2 : IsArr .u8 256 32 v2) (w3 : IsInt .u64 v3) (w4 : IsCards w v4) (qt : QTab w) :
    Calls Tryd.prog 4 #[v0, v1, v2, v3, v4] w fun e w' => e = .returned (.bool true) ∧ Old w w' := walkK_MaskHides maskK v0 v1 v2 v3 v4 w (more w0) w1 w2 w3 w4 qt
end Go.Proofs.YtjbpnhibgafdmaaDoor
