/-
  What layer 8's calls owe, told by values alone (the walks of its statements ask no more); the fixed fact of its statements.
-/
import Derived.Test.YtienijnggccnfaaRefLimb
import Derived.Test.YtienijnggccnfaaWholeG
import Derived.Test.YtienijnggccnfaaArrEq
namespace Go.Proofs.Ytienijnggccnfaa
open Go.RowKit Limb
set_option linter.unusedVariables false

def CutC : Prop := ∀ (s : List Nat), s.length = 32 → (∀ x ∈ s, x < 256) → ∀ w : World,
  Calls Try.prog 7 #[.agg (nums .u8 s).toArray] w fun e w' => e = .returned (.agg (nums .u64 (cutL s)).toArray) ∧ Old w w'
def GlueC : Prop := ∀ (l : List Nat), l.length = 5 → (∀ x ∈ l, x < 18446744073709551616) → ∀ w : World,
  Calls Try.prog 10 #[.agg (nums .u64 l).toArray] w fun e w' => e = .returned (.tuple #[.agg (nums .u8 (glueS l)).toArray, .int .i64 (glueE l : Nat)]) ∧ Old w w'
structure LimbK : Prop where
  cut : CutC
  glue : GlueC

theorem infoS {k : IntKind} {xs : List Nat} (h : xs.length = 32) : (Try.prog.info? 26).map (·.size) = some (nums k xs).length := by rw [nums_length, h]; kernel_rfl
theorem Row.rng {w : World} {g : Nat} {t : TypeId} {vs : List Value} (R : Row w g t vs) : w.rangeAt g 0 vs := fun j v hv => by rw [Nat.zero_add]; exact R.cell hv

namespace Aw8
def s0 : List Nat := 1 :: 2 :: List.replicate 30 0
def sA : List Nat := [1, 2, 0, 0, 0, 0, 0, 3, 0, 0, 0, 0, 0, 0, 0, 0, 0, 0, 0, 0, 0, 0, 0, 0, 0, 0, 0, 0, 0, 0, 0, 4]
def lA : List Nat := [513, 3, 0, 0, 67108864]
def lB : List Nat := [72057594037927936, 0, 0, 0, 0]
theorem cutA : cutL sA = lA := by decide +kernel
theorem glueA : glueS lA = sA := by decide +kernel
theorem eA : glueE lA = 0 := by decide +kernel
theorem eB : glueE lB = 4 := by decide +kernel
theorem bA : ∀ x ∈ sA, x < 256 := by decide
theorem c1 (K : LimbK) (w : World) : Calls Try.prog 7 #[.agg (nums .u8 sA).toArray] w fun e w' => e = .returned (.agg (nums .u64 lA).toArray) ∧ Old w w' := by
  have := K.cut sA rfl bA w
  rw [cutA] at this
  exact this
theorem c2 (K : LimbK) (w : World) : Calls Try.prog 10 #[.agg (nums .u64 lA).toArray] w fun e w' => e = .returned (.tuple #[.agg (nums .u8 sA).toArray, .int .i64 0]) ∧ Old w w' := by
  have := K.glue lA rfl (by decide) w
  rw [glueA, eA] at this
  exact this
theorem c3 (K : LimbK) (w : World) : Calls Try.prog 10 #[.agg (nums .u64 lB).toArray] w fun e w' => e = .returned (.tuple #[.agg (nums .u8 (glueS lB)).toArray, .int .i64 4]) ∧ Old w w' := by
  have := K.glue lB rfl (by decide) w
  rw [eB] at this
  exact this
theorem eqA (w : World) : (Op.equalIn 10000 26 (.agg (nums .u8 sA).toArray) (.agg (nums .u8 sA).toArray)).run Try.prog w = .ok true w := by
  have := eq_arr (P := Try.prog) (k := .u8) Try.underlying26 Try.underlying5 (fun w => by kernel_rfl) sA sA rfl rfl w
  rw [show decide (sA = sA) = true by simp] at this
  exact this
end Aw8

set_option maxHeartbeats 2000000 in
theorem awake8 (K : LimbK) (w : World) : Calls Try.prog 8 #[] w fun e w' => e = .returned (.bool true) ∧ Old w w' := by
  have KK := hide K
  clear K
  have Z0 : Hid (Row (w.alloc (.cells (nums .u8 z32).toArray 26)) w.heap.size 26 (nums .u8 z32)) := Row.new _ _ _
  go_enter Try.func8, Try.ntmps8
  go_wp2_with (first
    | (refine wp_store_whole rfl 26 _ _ rfl w.heap.size rfl (nums .u8 Aw8.s0) rfl Z0.out (infoS rfl) rfl (nums_oneCell _ _) ?_; rintro w0 h0
       have R0 : Hid (Row w0 w.heap.size 26 (nums .u8 Aw8.s0)) := by show Row _ _ _ _; rw [h0]; exact Z0.out.whole _
       have O0 : Old w w0 := by rw [h0]; exact (Old.of_alloc _ _).grown (grown_setRow _ _ _) (Nat.le_refl _)
       have c7 : w0.cell? ⟨w.heap.size, 7, none⟩ = some (.int .u8 0) := R0.out.cell (i := 7) rfl
       have c31 : w0.cell? ⟨w.heap.size, 31, none⟩ = some (.int .u8 0) := R0.out.cell (i := 31) rfl
       have f7 := R0.out.free 7
       have f31 := R0.out.free 31
       have R1 : Hid (Row ((w0.setCell ⟨w.heap.size, 7, none⟩ (.int .u8 3)).setCell ⟨w.heap.size, 31, none⟩ (.int .u8 4)) w.heap.size 26 (nums .u8 Aw8.sA)) := (R0.out.set 7 (.int .u8 3)).set 31 (.int .u8 4)
       have O1 : Old w ((w0.setCell ⟨w.heap.size, 7, none⟩ (.int .u8 3)).setCell ⟨w.heap.size, 31, none⟩ (.int .u8 4)) := (O0.grown (grown_set _ _ _ _) (Nat.le_refl _)).grown (grown_set _ _ _ _) (Nat.le_refl _)
       clear h0 Z0)
    | refine wp_load_whole rfl 26 _ rfl w.heap.size rfl R1.out Try.underlying26 rfl (infoS rfl) ?_)
  refine (Aw8.c1 KK.out _).mono ?_
  rintro e w2 ⟨rfl, o2⟩
  have R2 := hide (R1.out.mono o2)
  have O2 := O1.trans o2
  clear R0 O0 R1 O1 o2 c7 c31 f7 f31
  have Z2 : Hid (Row (w2.alloc (.cells (nums .u64 z5).toArray 24)) w2.heap.size 24 (nums .u64 z5)) := Row.new _ _ _
  go_wp2_with (first
    | (refine wp_store_whole rfl 24 _ _ rfl w2.heap.size rfl (nums .u64 Aw8.lA) rfl Z2.out (info5 rfl) rfl (nums_oneCell _ _) ?_; rintro w3 h3
       have L3 : Hid (Row w3 w2.heap.size 24 (nums .u64 Aw8.lA)) := by show Row _ _ _ _; rw [h3]; exact Z2.out.whole _
       have o3 : Old w2 w3 := by rw [h3]; exact (Old.of_alloc _ _).grown (grown_setRow _ _ _) (Nat.le_refl _)
       have R3 := hide (R2.out.mono o3)
       have O3 := O2.trans o3
       clear h3 o3 R2 O2 Z2)
    | refine wp_load_whole rfl 24 _ rfl w2.heap.size rfl L3.out Try.underlying24 rfl (info5 rfl) ?_)
  refine (Aw8.c2 KK.out _).mono ?_
  rintro e w4 ⟨rfl, o4⟩
  have R4 := hide (R3.out.mono o4)
  have L4 := hide (L3.out.mono o4)
  have O4 := O3.trans o4
  clear R3 L3 O3 o4
  have Z4 : Hid (Row (w4.alloc (.cells (nums .u8 z32).toArray 26)) w4.heap.size 26 (nums .u8 z32)) := Row.new _ _ _
  go_wp2_with (first
    | (refine wp_store_whole rfl 26 _ _ rfl w4.heap.size rfl (nums .u8 Aw8.sA) rfl Z4.out (infoS rfl) rfl (nums_oneCell _ _) ?_; rintro w5 h5
       have S5 : Hid (Row w5 w4.heap.size 26 (nums .u8 Aw8.sA)) := by show Row _ _ _ _; rw [h5]; exact Z4.out.whole _
       have o5 : Old w4 w5 := by rw [h5]; exact (Old.of_alloc _ _).grown (grown_setRow _ _ _) (Nat.le_refl _)
       have R5 := hide (R4.out.mono o5)
       have L5 := hide (L4.out.mono o5)
       have O5 := O4.trans o5
       clear h5 o5 R4 L4 O4 Z4))
  refine (Aw8.c3 KK.out _).mono ?_
  rintro e w6 ⟨rfl, o6⟩
  have S6 := hide (S5.out.mono o6)
  have R6 := hide (R5.out.mono o6)
  have L6 := hide (L5.out.mono o6)
  have O6 := O5.trans o6
  have GL := hide (glueS_length Aw8.lB)
  revert GL
  generalize glueS Aw8.lB = gl
  intro GL
  clear S5 R5 L5 O5 o6
  have Z6 : Hid (Row (w6.alloc (.cells (nums .u8 z32).toArray 26)) w6.heap.size 26 (nums .u8 z32)) := Row.new _ _ _
  go_wp2_with (first
    | (refine wp_store_whole rfl 26 _ _ rfl w6.heap.size rfl (nums .u8 gl) rfl Z6.out (infoS GL.out) (by rw [nums_length, nums_length, GL.out]; rfl) (nums_oneCell _ _) ?_; rintro w7 h7
       have o7 : Old w6 w7 := by rw [h7]; exact (Old.of_alloc _ _).grown (grown_setRow _ _ _) (Nat.le_refl _)
       have S7 := hide (S6.out.mono o7)
       have R7 := hide (R6.out.mono o7)
       have L7 := L6.out.mono o7
       have O7 := O6.trans o7
       have l0 : w7.cell? ⟨w2.heap.size, 0, none⟩ = some (.int .u64 513) := L7.cell (i := 0) rfl
       have l1 : w7.cell? ⟨w2.heap.size, 1, none⟩ = some (.int .u64 3) := L7.cell (i := 1) rfl
       have l4 : w7.cell? ⟨w2.heap.size, 4, none⟩ = some (.int .u64 67108864) := L7.cell (i := 4) rfl
       clear h7 o7 S6 R6 L6 O6 L7 Z6)
    | refine wp_load_whole_g rfl 26 _ rfl w4.heap.size rfl S7.out.rng Try.underlying26 rfl (infoS rfl) ?_
    | refine wp_load_whole_g rfl 26 _ rfl w.heap.size rfl R7.out.rng Try.underlying26 rfl (infoS rfl) ?_
    | refine wp_eq_whole_g rfl 26 _ _ _ rfl (nums .u8 Aw8.sA).toArray (nums .u8 Aw8.sA).toArray rfl rfl (by kernel_rfl) true (Aw8.eqA _) ?_)
  go_ret
  exact ⟨rfl, O7⟩
end Go.Proofs.Ytienijnggccnfaa
