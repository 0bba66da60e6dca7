/-
  The fixed fact of layer 1's statements (offertorylaw01.awake) is true.
-/
import Derived.Test.YtlgakkmgmncfaaaPowers
namespace Go.Proofs.Ytlgakkmgmncfaaa
open Go.RowKit M
set_option linter.unusedVariables false

theorem md3 : 1 ≤ md 3 := by decide +kernel
theorem mdP : md 2305843009213693951 = 0 := by decide +kernel
theorem inv3 : mulP (invP 3) 3 = 1 := invP_mul 3 (by decide)
theorem add1 : addP 2305843009213693950 2 = 1 := by decide +kernel
theorem sub1 : subP 1 2 = 2305843009213693950 := by decide +kernel
theorem pow1 : powP 2 61 = 1 := by decide +kernel

namespace Aw
theorem c2 (w : World) : Calls Try.prog 20 #[.int .u64 2305843009213693951] w fun e w' => e = .returned (.tuple #[.int .u64 0, .int .i64 1]) ∧ w' = w :=
  Inv_none 2305843009213693951 (by omega) mdP w
theorem c4 (w : World) : Calls Try.prog 10 #[.int .u64 2305843009213693950, .int .u64 2] w fun e w' => e = .returned (.int .u64 1) ∧ w' = w := by
  have := Add_any 2305843009213693950 2 (by omega) (by omega) w
  rw [add1] at this; exact this
theorem c5 (w : World) : Calls Try.prog 12 #[.int .u64 1, .int .u64 2] w fun e w' => e = .returned (.int .u64 2305843009213693950) ∧ w' = w := by
  have := Sub_any 1 2 (by omega) (by omega) w
  rw [sub1] at this; exact this
theorem c6 (w : World) : Calls Try.prog 18 #[.int .u64 2, .int .u64 61] w fun e w' => e = .returned (.int .u64 1) ∧ w' = w := by
  have := Pow_any 2 61 (by omega) (by omega) w
  rw [pow1] at this; exact this
theorem c7 (w : World) : Calls Try.prog 14 #[.int .u64 2305843009213693951] w fun e w' => e = .returned (.int .u64 0) ∧ w' = w := by
  have := Mod_any 2305843009213693951 (by omega) w
  rw [mdP] at this; exact this

set_option maxHeartbeats 1000000 in
theorem core (v : Nat) (w : World) (hv : v < 2305843009213693951)
    (c1 : Hid (∀ w, Calls Try.prog 20 #[.int .u64 3] w fun e w' => e = .returned (.tuple #[.int .u64 v, .int .i64 0]) ∧ w' = w))
    (c3 : Hid (∀ w, Calls Try.prog 16 #[.int .u64 v, .int .u64 3] w fun e w' => e = .returned (.int .u64 1) ∧ w' = w)) :
    Calls Try.prog 9 #[] w fun e w' => e = .returned (.bool true) ∧ w' = w := by
  go_enter Try.func9, Try.ntmps9
  go_wp2_with fail
  refine (c1.out _).mono ?_
  rintro e w' ⟨rfl, rfl⟩
  go_wp2_with fail
  refine (c2 _).mono ?_
  rintro e w' ⟨rfl, rfl⟩
  go_wp2_with fail
  refine (c3.out _).mono ?_
  rintro e w' ⟨rfl, rfl⟩
  go_wp2_with fail
  refine (c4 _).mono ?_
  rintro e w' ⟨rfl, rfl⟩
  go_wp2_with fail
  refine (c5 _).mono ?_
  rintro e w' ⟨rfl, rfl⟩
  go_wp2_with fail
  refine (c6 _).mono ?_
  rintro e w' ⟨rfl, rfl⟩
  go_wp2_with fail
  refine (c7 _).mono ?_
  rintro e w' ⟨rfl, rfl⟩
  go_wp2
  go_ret
  exact ⟨rfl, rfl⟩
end Aw

theorem awake1 (w : World) :
    Calls Try.prog 9 #[] w fun e w' => e = .returned (.bool true) ∧ w' = w := by
  obtain ⟨v, hv⟩ : ∃ v, v = invP 3 := ⟨_, rfl⟩
  have hl := invP_lt 3
  rw [← hv] at hl
  refine Aw.core v w hl (fun w => ?_) (fun w => ?_)
  · rw [hv]; exact Inv_some 3 (by omega) md3 w
  · have := Mul_any v 3 (by omega) (by omega) w
    have e : mulP v 3 = 1 := by rw [hv]; exact inv3
    rw [e] at this; exact this
end Go.Proofs.Ytlgakkmgmncfaaa
