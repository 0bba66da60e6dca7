/-
  Layer 9 as it landed: what wide's Mul answers.
-/
import Derived.Test.YthaaajepolahfaaRefWide
import Derived.Shelf.Bits.Mul64
namespace Go.Proofs.Ythaaajepolahfaa
open Go.RowKit Wd
set_option linter.unusedVariables false

def mulRen : Go.Shelf.Ren := ⟨fun | 264 => 59 | n => n, fun | 46 => 65 | 53 => 25 | n => n, fun | n => n⟩
theorem mulLays : Go.Proofs.Lays.n264 Try.prog mulRen := {
  mixed := by kernel_rfl
  f264 := Try.func59.trans (congrArg some (by kernel_rfl))
  t46 := Try.underlying65
  a46 := Try.isAgg65
  z46 := Try.sizeOf65
  v46 := Try.zeroValue65
  t53 := Try.underlying25
  a53 := Try.isAgg25
  z53 := Try.sizeOf25
  v53 := Try.zeroValue25 }

set_option maxHeartbeats 1000000 in
theorem mul_any (a b : Nat) (ha : a < 18446744073709551616) (hb : b < 18446744073709551616) (w : World) : Calls Try.prog 42 #[.int .u64 (a : Nat), .int .u64 (b : Nat)] w fun e w' => e = .returned (wv (a * b)) ∧ Old w w' := by
  have C := hide (fun w => Any.bits_Mul64 mulLays a b ha hb w)
  have e1 : a * b / 18446744073709551616 = hi (a * b) := by
    have : a * b / 18446744073709551616 < 18446744073709551616 := by
      rw [Nat.div_lt_iff_lt_mul (by omega)]
      exact Nat.mul_lt_mul'' ha hb
    unfold hi
    omega
  have e2 : a * b % 18446744073709551616 = lo (a * b) := rfl
  rw [e1, e2] at C
  clear e1 e2
  unfold wv
  revert C
  generalize hi (a * b) = s
  generalize lo (a * b) = t
  intro C
  go_enter Try.func42, Try.ntmps42
  go_wp2_with fail
  refine (C.out _).mono ?_
  rintro e w' ⟨rfl, rfl⟩
  go_wp2_with fail
  simp [bodyPost, results, Try.results42, go_sem]
  exact Old.of_alloc _ _
end Go.Proofs.Ythaaajepolahfaa
