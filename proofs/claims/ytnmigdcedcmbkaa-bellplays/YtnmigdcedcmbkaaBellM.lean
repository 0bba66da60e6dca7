/-
  The landed bell's list of moments: Swap, over cells.
-/
import Derived.Test.YtnmigdcedcmbkaaBellL
namespace Go.Proofs.Ytnmigdcedcmbkaa
open Go.RowKit Bl Hp
set_option linter.unusedVariables false
/-- Behind the first exchange; behind both. -/
def swV (w : World) (g i j gx gy : Nat) : World := ((w.setCell ⟨g, i, none⟩ (.pointer (some ⟨gy, 0, none⟩))).setCell ⟨g, j, none⟩ (.pointer (some ⟨gx, 0, none⟩))).drew
def swW (v : World) (i j gx gy : Nat) : World := ((v.setCell ⟨gy, 2, none⟩ (.int .i64 (i : Int))).setCell ⟨gx, 2, none⟩ (.int .i64 (j : Int))).drew
set_option maxHeartbeats 2000000 in
theorem swap_core (g n cap i j gx gy : Nat) (o1 o2 o3 : Value) (w : World) (hi : i < n) (hj : j < n)
    (c1 : w.cell? ⟨g, i, none⟩ = some (.pointer (some ⟨gx, 0, none⟩))) (c2 : w.cell? ⟨g, j, none⟩ = some (.pointer (some ⟨gy, 0, none⟩)))
    (f1 : w.frozen? ⟨g, i, none⟩ = false) (f2 : w.frozen? ⟨g, j, none⟩ = false) (f3 : (w.setCell ⟨g, i, none⟩ (.pointer (some ⟨gy, 0, none⟩))).frozen? ⟨g, j, none⟩ = false) (f4 : (w.setCell ⟨g, i, none⟩ (.pointer (some ⟨gy, 0, none⟩))).cell? ⟨g, j, none⟩ = some o3)
    (d1 : (swV w g i j gx gy).cell? ⟨g, i, none⟩ = some (.pointer (some ⟨gy, 0, none⟩))) (d2 : (swV w g i j gx gy).cell? ⟨g, j, none⟩ = some (.pointer (some ⟨gx, 0, none⟩)))
    (d3 : (swV w g i j gx gy).cell? ⟨gy, 2, none⟩ = some o1) (d4 : (swV w g i j gx gy).frozen? ⟨gy, 2, none⟩ = false)
    (d5 : ((swV w g i j gx gy).setCell ⟨gy, 2, none⟩ (.int .i64 (i : Int))).cell? ⟨gx, 2, none⟩ = some o2) (d6 : ((swV w g i j gx gy).setCell ⟨gy, 2, none⟩ (.int .i64 (i : Int))).frozen? ⟨gx, 2, none⟩ = false) :
    Calls Try.prog 38 #[.slice (some ⟨g, 0, none⟩) n cap, .int .i64 (i : Int), .int .i64 (j : Int)] w fun e w' => e = .returned (.tuple #[]) ∧ w' = swW (swV w g i j gx gy) i j gx gy := by
  have i0 : (0 : Int) ≤ i := by omega
  have j0 : (0 : Int) ≤ j := by omega
  have i1 : (i : Int) < n := by omega
  have j1 : (j : Int) < n := by omega
  have EV : Hid (((w.setCell ⟨g, i, none⟩ (.pointer (some ⟨gy, 0, none⟩))).setCell ⟨g, j, none⟩ (.pointer (some ⟨gx, 0, none⟩))).drew = swV w g i j gx gy) := rfl
  revert d1 d2 d3 d4 d5 d6 EV
  generalize swV w g i j gx gy = V
  intro d1 d2 d3 d4 d5 d6 EV
  go_enter Try.func38, Try.ntmps38
  go_wp2_with fail
  go_region
  rw [EV.out]
  clear EV c1 c2 f1 f2 f3 f4
  go_wp2_with fail
  go_region
  go_end0
  exact ⟨rfl, rfl⟩
end Go.Proofs.Ytnmigdcedcmbkaa
