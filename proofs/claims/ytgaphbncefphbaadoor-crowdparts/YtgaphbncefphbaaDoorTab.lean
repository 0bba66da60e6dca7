/-
  The library's table of math/bits.TrailingZeros64 lies as its initialiser lays it; what TrailingZeros64 answers then.
-/
import Derived.Test.YtgaphbncefphbaaDoorProg
import Derived.Test.YtgaphbncefphbaaDoorMem
import Derived.Shelf.Spec.TrailingZeros
namespace Go.Proofs.YtgaphbncefphbaaDoor
open Go.RowKit
set_option linter.unusedVariables false

def Tab (w : World) : Prop := TabAt 0 Lib.deBruijn64tab w
theorem Tab.mono {w w' : World} (h : Tab w) (o : Old w w') : Tab w' := fun j hj => (Below.cell o (World.block_lt_of_cell? w _ (h j hj))).trans (h j hj)

set_option maxHeartbeats 1000000 in
theorem tz64_core (x k idx : Nat) (w : World) (hx0 : ((x : Int) == 0) = false)
    (key : IntKind.u64.wrap (bits BinOp.and IntKind.u64 (x : Int) (IntKind.u64.wrap (-(x : Int))) * 285870213051353865) / 288230376151711744 = (idx : Int))
    (hi : idx < 64) (hk : k < 64) (hcell : w.cell? ⟨0, idx, none⟩ = some (.int .u8 k)) :
    Calls Tryd.prog 26 #[.int .u64 (x : Nat)] w fun e w' => e = .returned (.int .i64 (k : Nat)) ∧ w' = w := by
  go_enter Tryd.func26, Tryd.ntmps26
  go_wp2_with (simp only [key])
  go_ret
  exact ⟨rfl, rfl⟩

theorem tz64_any (x : Nat) (hx : x < 18446744073709551616) (h0 : x ≠ 0) (w : World) (T : Tab w) :
    Calls Tryd.prog 26 #[.int .u64 (x : Nat)] w fun e w' => e = .returned (.int .i64 (Lib.ctz 64 x : Nat)) ∧ w' = w := by
  obtain ⟨hlow, hk⟩ := Lib.lowest_bit 64 x h0 hx
  obtain ⟨hi, htab⟩ := Lib.deBruijn64_at _ hk
  have hcell := T _ hi
  rw [htab] at hcell
  exact tz64_core x _ _ w (by simp; omega) (tz64_key x _ hx h0 hlow) hi hk hcell
end Go.Proofs.YtgaphbncefphbaaDoor
