/-
  What Agree answers, the landed one and the document's own (offertoryref16, offertoryref01: Secret, Good), told as numbers.
-/
import Derived.Test.YtjbpnhibgafdmaaDoorGroup
import Derived.Test.YtjbpnhibgafdmaaDoorRef1
import Derived.Test.YtjbpnhibgafdmaaDoorMem
namespace Go.Proofs.YtjbpnhibgafdmaaDoor
open Go.RowKit M
set_option linter.unusedVariables false

namespace Sl
/-- What Agree answers, told as numbers: the error, the number. -/
def agE (s p : Nat) : Nat := if s < 1 ∨ 2305843009213693949 < s then 1 else if goodP p = true then 0 else 16
def agN (s p : Nat) : Nat := if agE s p = 0 then powP p s else 0
theorem agE_cases (s p : Nat) : (agE s p = 0 ∧ 1 ≤ s ∧ s ≤ 2305843009213693949 ∧ goodP p = true) ∨ (agE s p = 1 ∧ (s < 1 ∨ 2305843009213693949 < s)) ∨ (agE s p = 16 ∧ 1 ≤ s ∧ s ≤ 2305843009213693949 ∧ goodP p = false) := by
  unfold agE
  by_cases h : s < 1 ∨ 2305843009213693949 < s
  · rw [if_pos h]; exact .inr (.inl ⟨rfl, h⟩)
  · rw [if_neg h]
    cases hg : goodP p
    · exact .inr (.inr ⟨by simp, by omega, by omega, rfl⟩)
    · exact .inl ⟨by simp, by omega, by omega, rfl⟩
theorem agN_lt (s p : Nat) : agN s p < 2305843009213693951 := by
  unfold agN
  split
  · exact powP_lt _ _
  · omega
end Sl
open Sl

theorem agree_any (s p : Nat) (hp : p < 18446744073709551616) (w : World) :
    Calls Tryd.prog 22 #[.int .u64 s, .int .u64 p] w fun e w' => e = .returned (.tuple #[.int .u64 (agN s p), .int .i64 (agE s p)]) ∧ w' = w := by
  rcases agE_cases s p with ⟨h, h1, h2, h3⟩ | ⟨h, h1⟩ | ⟨h, h1, h2, h3⟩
  · rw [show agN s p = powP p s by unfold agN; rw [if_pos h], h]
    exact Agree_some s p h1 h2 hp h3 w
  · rw [show agN s p = 0 by unfold agN; rw [if_neg (by rw [h]; omega)], h]
    exact Agree_none s p h1 w
  · rw [show agN s p = 0 by unfold agN; rw [if_neg (by rw [h]; omega)], h]
    exact Agree_bad s p h1 h2 h3 w

theorem R1Secret_any (s : Nat) (w : World) :
    Calls Tryd.prog 20 #[.int .u64 s] w fun e w' => e = .returned (.bool (decide (1 ≤ s) && decide (s ≤ 2305843009213693949))) ∧ w' = w := by
  by_cases h1 : 1 ≤ s
  · have d1 : decide ((1 : Int) ≤ s) = true := decide_eq_true (by omega)
    have d2 : decide ((s : Int) ≤ 2305843009213693949) = decide (s ≤ 2305843009213693949) := by rw [decide_eq_decide]; omega
    rw [decide_eq_true h1, Bool.true_and, ← d2]
    clear h1 d2
    go_enter Tryd.func20, Tryd.ntmps20
    go_wp2
    go_ret
    exact ⟨rfl, rfl⟩
  · have d1 : decide ((1 : Int) ≤ s) = false := decide_eq_false (by omega)
    rw [decide_eq_false h1, Bool.false_and]
    clear h1
    go_enter Tryd.func20, Tryd.ntmps20
    go_wp2
    go_ret
    exact ⟨rfl, rfl⟩

theorem R1Good_any (p : Nat) (w : World) :
    Calls Tryd.prog 21 #[.int .u64 p] w fun e w' => e = .returned (.bool (goodP p)) ∧ w' = w := by
  unfold goodP
  by_cases h1 : 2 ≤ p
  · have d1 : decide ((2 : Int) ≤ p) = true := decide_eq_true (by omega)
    have d2 : decide ((p : Int) ≤ 2305843009213693949) = decide (p ≤ 2305843009213693949) := by rw [decide_eq_decide]; omega
    rw [decide_eq_true h1, Bool.true_and, ← d2]
    clear h1 d2
    go_enter Tryd.func21, Tryd.ntmps21
    go_wp2
    go_ret
    exact ⟨rfl, rfl⟩
  · have d1 : decide ((2 : Int) ≤ p) = false := decide_eq_false (by omega)
    rw [decide_eq_false h1, Bool.false_and]
    clear h1
    go_enter Tryd.func21, Tryd.ntmps21
    go_wp2
    go_ret
    exact ⟨rfl, rfl⟩

theorem refAgree16_any (s p : Nat) (hs : s < 18446744073709551616) (hp : p < 18446744073709551616) (w : World) :
    Calls Tryd.prog 9 #[.int .u64 s, .int .u64 p] w fun e w' => e = .returned (.tuple #[.int .u64 (agN s p), .int .i64 (agE s p)]) ∧ w' = w := by
  have C1 := hide (R1Secret_any s)
  have C2 := hide (R1Good_any p)
  have C3 := hide (R1.Pow_any p s hp hs)
  rcases agE_cases s p with ⟨h, h1, h2, h3⟩ | ⟨h, h1⟩ | ⟨h, h1, h2, h3⟩
  · rw [show agN s p = powP p s by unfold agN; rw [if_pos h], h]
    rw [decide_eq_true h1, decide_eq_true h2] at C1
    rw [h3] at C2
    clear h h1 h2 h3 hs hp
    go_enter Tryd.func9, Tryd.ntmps9
    go_wp2_with fail
    refine (C1.out _).mono ?_
    rintro e w1 ⟨rfl, rfl⟩
    rw [Bool.and_self]
    go_wp2_with fail
    refine (C2.out _).mono ?_
    rintro e w1 ⟨rfl, rfl⟩
    go_wp2_with fail
    refine (C3.out _).mono ?_
    rintro e w1 ⟨rfl, rfl⟩
    go_wp2
    go_ret2
    exact ⟨rfl, rfl⟩
  · rw [show agN s p = 0 by unfold agN; rw [if_neg (by rw [h]; omega)], h]
    have hb : (decide (1 ≤ s) && decide (s ≤ 2305843009213693949)) = false := by
      rcases h1 with h1 | h1
      · rw [decide_eq_false (by omega), Bool.false_and]
      · rw [decide_eq_false (p := s ≤ 2305843009213693949) (by omega), Bool.and_false]
    rw [hb] at C1
    clear h h1 hs hp hb
    go_enter Tryd.func9, Tryd.ntmps9
    go_wp2_with fail
    refine (C1.out _).mono ?_
    rintro e w1 ⟨rfl, rfl⟩
    go_wp2
    go_ret2
    exact ⟨rfl, rfl⟩
  · rw [show agN s p = 0 by unfold agN; rw [if_neg (by rw [h]; omega)], h]
    rw [decide_eq_true h1, decide_eq_true h2] at C1
    rw [h3] at C2
    clear h h1 h2 h3 hs hp
    go_enter Tryd.func9, Tryd.ntmps9
    go_wp2_with fail
    refine (C1.out _).mono ?_
    rintro e w1 ⟨rfl, rfl⟩
    rw [Bool.and_self]
    go_wp2_with fail
    refine (C2.out _).mono ?_
    rintro e w1 ⟨rfl, rfl⟩
    go_wp2
    go_ret2
    exact ⟨rfl, rfl⟩
end Go.Proofs.YtjbpnhibgafdmaaDoor
