/-
  The walk of MaskGoes: the landed calls are what they owe.
-/
import Derived.Test.YtjbpnhibgafdmaaDoorMgMask
import Derived.Test.YtjbpnhibgafdmaaDoorLaws17g
import Derived.Test.YtjbpnhibgafdmaaDoorLaid4
namespace Go.Proofs.YtjbpnhibgafdmaaDoor
open Go.RowKit
set_option linter.unusedVariables false

theorem more {k : IntKind} {B : Nat} {w : World} {v : Value} (h : IsNums k B 35184372087808 w v) : IsNums k B 35184372088832 w v := by
  obtain ⟨a, n, cap, xs, h1, h2, h3, h4, h5, h6⟩ := h
  exact ⟨a, n, cap, xs, h1, h2, h3, h4, by omega, h6⟩

theorem walk_MaskGoes (v0 v1 v2 : Value) (w : World) (w0 : IsNums .u64 18446744073709551616 17592186043904 w v0) (w1 : IsNums .u32 4294967296 35184372087808 w v1) (w2 : IsInt .u8 v2) (qt : QTab w) :
    Calls Tryd.prog 6 #[v0, v1, v2] w fun e w' => e = .returned (.bool true) ∧ Old w w' := walkK_MaskGoes maskK v0 v1 v2 w w0 (more w1) w2 qt
end Go.Proofs.YtjbpnhibgafdmaaDoor
