/-
  The fixed fact of layer 3's statements (offertorylaw03.awake) is true where the package's table is as its initialiser lays it.
-/
import Derived.Test.YtlicobbjcgbllaaDoorGroup
import Derived.Test.YtlicobbjcgbllaaDoorMem
namespace Go.Proofs.YtlicobbjcgbllaaDoor
open Go.RowKit M
set_option linter.unusedVariables false

namespace Aw3
theorem p5 : powP 37 5 = 69343957 := by decide +kernel
theorem p7 : powP 37 7 = 94931877133 := by decide +kernel
theorem p57 : powP 94931877133 5 = 335500773153954046 := by decide +kernel
theorem p75 : powP 69343957 7 = 335500773153954046 := by decide +kernel
theorem m1 : powP 2305843009213693950 1 ≠ 1 := by decide +kernel
theorem m2 : powP 2305843009213693950 2 = 1 := by decide +kernel
theorem nz : 2305843009213693950 % 2305843009213693951 ≠ 0 := by decide +kernel
theorem om : ordP 2305843009213693950 = 2 := by
  have h1 := ord_pos 2305843009213693950 nz
  have h2 : ordP 2305843009213693950 ≠ 1 := by
    intro h
    have := ord_one 2305843009213693950 nz
    rw [h] at this
    exact m1 this
  have h3 : ¬ 2 < ordP 2305843009213693950 := fun h => ord_least 2305843009213693950 2 nz (by decide) h m2
  generalize ordP 2305843009213693950 = z at h1 h2 h3 ⊢
  omega

theorem c1 (w : World) : Calls Tryd.prog 8 #[.int .u64 5] w fun e w' => e = .returned (.tuple #[.int .u64 69343957, .int .i64 0]) ∧ w' = w := by
  have := Public_some 5 (by omega) (by omega) w
  rw [p5] at this; exact this
theorem c2 (w : World) : Calls Tryd.prog 8 #[.int .u64 7] w fun e w' => e = .returned (.tuple #[.int .u64 94931877133, .int .i64 0]) ∧ w' = w := by
  have := Public_some 7 (by omega) (by omega) w
  rw [p7] at this; exact this
theorem c3 (w : World) : Calls Tryd.prog 12 #[.int .u64 5, .int .u64 94931877133] w fun e w' => e = .returned (.tuple #[.int .u64 335500773153954046, .int .i64 0]) ∧ w' = w := by
  have := Agree_some 5 94931877133 (by omega) (by omega) (by omega) rfl w
  rw [p57] at this; exact this
theorem c4 (w : World) : Calls Tryd.prog 12 #[.int .u64 7, .int .u64 69343957] w fun e w' => e = .returned (.tuple #[.int .u64 335500773153954046, .int .i64 0]) ∧ w' = w := by
  have := Agree_some 7 69343957 (by omega) (by omega) (by omega) rfl w
  rw [p75] at this; exact this
theorem c5 (w : World) (ht : Tab w) : Calls Tryd.prog 13 #[.int .u64 2305843009213693950] w fun e w' => e = .returned (.tuple #[.int .u64 2, .int .i64 0]) ∧ w' = w := by
  have := Order_some 2305843009213693950 (by omega) (by omega) w ht
  rw [om] at this; exact this
theorem c6 (w : World) : Calls Tryd.prog 10 #[.int .u64 2] w fun e w' => e = .returned (.bool true) ∧ w' = w := Good_any 2 w
theorem c7 (w : World) : Calls Tryd.prog 10 #[.int .u64 1] w fun e w' => e = .returned (.bool false) ∧ w' = w := Good_any 1 w
end Aw3

set_option maxHeartbeats 1000000 in
theorem awake3 (w : World) (ht : Tab w) :
    Calls Tryd.prog 9 #[] w fun e w' => e = .returned (.bool true) ∧ w' = w := by
  have c5 := hide (Aw3.c5 w ht)
  clear ht
  go_enter Tryd.func9, Tryd.ntmps9
  go_wp2_with fail
  refine (Aw3.c1 _).mono ?_
  rintro e w' ⟨rfl, rfl⟩
  go_wp2_with fail
  refine (Aw3.c2 _).mono ?_
  rintro e w' ⟨rfl, rfl⟩
  go_wp2_with fail
  refine (Aw3.c3 _).mono ?_
  rintro e w' ⟨rfl, rfl⟩
  go_wp2_with fail
  refine (Aw3.c4 _).mono ?_
  rintro e w' ⟨rfl, rfl⟩
  go_wp2_with fail
  refine c5.out.mono ?_
  rintro e w' ⟨rfl, rfl⟩
  go_wp2_with fail
  refine (Aw3.c6 _).mono ?_
  rintro e w' ⟨rfl, rfl⟩
  go_wp2_with fail
  refine (Aw3.c7 _).mono ?_
  rintro e w' ⟨rfl, rfl⟩
  go_wp2
  go_ret
  exact ⟨rfl, rfl⟩
end Go.Proofs.YtlicobbjcgbllaaDoor
