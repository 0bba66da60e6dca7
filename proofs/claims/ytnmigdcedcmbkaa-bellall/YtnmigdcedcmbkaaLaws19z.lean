/-
  Layer 19's statements, without premises.
-/
import Derived.Test.YtnmigdcedcmbkaaBellX
import Derived.Test.YtnmigdcedcmbkaaLaws19
import Derived.Test.YtnmigdcedcmbkaaLaws19b
import Derived.Test.YtnmigdcedcmbkaaLaws19c
namespace Go.Proofs.Ytnmigdcedcmbkaa
open Go.RowKit Pn

theorem walk_BellNone (v0 v1 : Value) (w : World) (w0 : IsInt .i64 v0) (w1 : IsInt .i64 v1) :
    Calls Try.prog 5 #[v0, v1] w fun e w' => e = .returned (.bool true) ∧ Old w w' := walkK_BellNone bellK v0 v1 w w0 w1

theorem walk_BellMoves (v0 v1 v2 v3 : Value) (w : World) (w0 : IsInt .u16 v0) (w1 : IsInt .u16 v1) (w2 : IsInt .u16 v2) (w3 : IsBool v3) :
    Calls Try.prog 6 #[v0, v1, v2, v3] w fun e w' => e = .returned (.bool true) ∧ Old w w' := walkK_BellMoves bellK v0 v1 v2 v3 w w0 w1 w2 w3

theorem wf_u16 (n : Int) (h : (Lit.int .u16 n).wf = true) : 0 ≤ n ∧ n < (65536 : Nat) := by
  have := bounds_u16 h
  omega
theorem more16 {k : IntKind} {B : Nat} {w : World} {v : Value} (h : IsNums k B 70368744175616 w v) : IsNums k B 70368744177664 w v := by
  obtain ⟨a, len, cap, xs, h1, h2, h3, h4, h5, h6⟩ := h
  exact ⟨a, len, cap, xs, h1, h2, h3, h4, by omega, h6⟩

theorem walk_BellAll (v0 : Value) (w : World) (w0 : IsNums .u16 65536 70368744175616 w v0) :
    Calls Try.prog 4 #[v0] w fun e w' => e = .returned (.bool true) ∧ Old w w' := walkK_BellAll bellK v0 w (more16 w0)

theorem walk_BellPlays (v0 : Value) (w : World) (w0 : IsStps w v0) :
    Calls Try.prog 3 #[v0] w fun e w' => e = .returned (.bool true) ∧ Old w w' := walkK_BellPlays bellK v0 w w0
end Go.Proofs.Ytnmigdcedcmbkaa
