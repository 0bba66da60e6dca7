/-
  The walks of layer 3's statements over numbers alone: each law returns true at any numbers, where the package's table is as its initialiser lays it.
-/
import Derived.Test.YtlicobbjcgbllaaDoorAwake3
import Derived.Test.YtlicobbjcgbllaaDoorRef1
import Derived.Test.YtlicobbjcgbllaaDoorOpen
namespace Go.Proofs.YtlicobbjcgbllaaDoor
open Go.RowKit M
set_option linter.unusedVariables false

theorem isU64 {v : Value} (h : IsInt .u64 v) : ∃ n : Nat, n < 18446744073709551616 ∧ v = .int .u64 (n : Int) := by
  obtain ⟨a, rfl, h⟩ := h
  have := bounds_u64 h
  exact ⟨a.toNat, by omega, by congr; omega⟩
theorem isU32 {v : Value} (h : IsInt .u32 v) : ∃ n : Nat, n < 4294967296 ∧ v = .int .u32 (n : Int) := by
  obtain ⟨a, rfl, h⟩ := h
  have := bounds_u32 h
  exact ⟨a.toNat, by omega, by congr; omega⟩
theorem isU16 {v : Value} (h : IsInt .u16 v) : ∃ n : Nat, n < 65536 ∧ v = .int .u16 (n : Int) := by
  obtain ⟨a, rfl, h⟩ := h
  have := bounds_u16 h
  exact ⟨a.toNat, by omega, by congr; omega⟩

set_option maxHeartbeats 1000000 in
theorem Publics_none (n : Nat) (h : n < 1 ∨ 2305843009213693949 < n) (w : World)
    (c1 : Hid (Calls Tryd.prog 9 #[] w fun e w' => e = .returned (.bool true) ∧ w' = w)) :
    Calls Tryd.prog 3 #[.int .u64 n] w fun e w' => e = .returned (.bool true) ∧ Old w w' := by
  have c2 := hide (Public_none n h w)
  rcases h with h | h
  · obtain rfl : n = 0 := by omega
    go_enter Tryd.func3, Tryd.ntmps3
    go_wp2_with fail
    refine c2.out.mono ?_
    rintro e w' ⟨rfl, rfl⟩
    go_wp2_with fail
    refine c1.out.mono ?_
    rintro e w' ⟨rfl, rfl⟩
    go_wp2_with fail
    refine (Good_low 0 (by omega) _).mono ?_
    rintro e w' ⟨rfl, rfl⟩
    go_wp2
    go_ret
    exact ⟨rfl, Old.refl _⟩
  · have hb : decide ((n : Int) ≤ 2305843009213693949) = false := decide_eq_false (by omega)
    go_enter Tryd.func3, Tryd.ntmps3
    go_wp2_with fail
    refine c2.out.mono ?_
    rintro e w' ⟨rfl, rfl⟩
    go_wp2_with fail
    refine c1.out.mono ?_
    rintro e w' ⟨rfl, rfl⟩
    go_wp2_with fail
    refine (Good_high n h _).mono ?_
    rintro e w' ⟨rfl, rfl⟩
    go_wp2
    go_ret
    exact ⟨rfl, Old.refl _⟩

set_option maxHeartbeats 1000000 in
theorem Publics_some (n : Nat) (h0 : 1 ≤ n) (h1 : n ≤ 2305843009213693949) (w : World)
    (c1 : Hid (Calls Tryd.prog 9 #[] w fun e w' => e = .returned (.bool true) ∧ w' = w)) :
    Calls Tryd.prog 3 #[.int .u64 n] w fun e w' => e = .returned (.bool true) ∧ Old w w' := by
  have c2 := hide (Public_some n h0 h1 w)
  have c3 := hide (R1.Pow_any 37 n (by omega) (by omega) w)
  have hp := powP_lt 37 n
  have hb : decide ((n : Int) ≤ 2305843009213693949) = true := decide_eq_true (by omega)
  have hb2 : decide (2305843009213693949 < (n : Int)) = false := decide_eq_false (by omega)
  by_cases h2 : n = 1
  · subst h2
    go_enter Tryd.func3, Tryd.ntmps3
    go_wp2_with fail
    refine c2.out.mono ?_
    rintro e w' ⟨rfl, rfl⟩
    go_wp2_with fail
    refine c1.out.mono ?_
    rintro e w' ⟨rfl, rfl⟩
    go_wp2_with fail
    refine c3.out.mono ?_
    rintro e w' ⟨rfl, rfl⟩
    go_wp2_with fail
    refine (Good_low 1 (by omega) _).mono ?_
    rintro e w' ⟨rfl, rfl⟩
    go_wp2
    go_ret
    exact ⟨rfl, Old.refl _⟩
  · go_enter Tryd.func3, Tryd.ntmps3
    go_wp2_with fail
    refine c2.out.mono ?_
    rintro e w' ⟨rfl, rfl⟩
    go_wp2_with fail
    refine c1.out.mono ?_
    rintro e w' ⟨rfl, rfl⟩
    go_wp2_with fail
    refine c3.out.mono ?_
    rintro e w' ⟨rfl, rfl⟩
    go_wp2_with fail
    refine (Good_yes n (by omega) h1 _).mono ?_
    rintro e w' ⟨rfl, rfl⟩
    go_wp2
    go_ret
    exact ⟨rfl, Old.refl _⟩

theorem walk_GroupPublics (v0 : Value) (w : World) (h0 : IsInt .u64 v0) (ht : Tab w) :
    Calls Tryd.prog 3 #[v0] w fun e w' => e = .returned (.bool true) ∧ Old w w' := by
  obtain ⟨n, hn, rfl⟩ := isU64 h0
  by_cases h : n < 1 ∨ 2305843009213693949 < n
  · exact Publics_none n h w (hide (awake3 w ht))
  · exact Publics_some n (by omega) (by omega) w (hide (awake3 w ht))

set_option maxHeartbeats 1000000 in
theorem Agrees_low (m : Nat) (w : World)
    (c1 : Hid (Calls Tryd.prog 9 #[] w fun e w' => e = .returned (.bool true) ∧ w' = w)) :
    Calls Tryd.prog 4 #[.int .u64 (0 : Nat), .int .u64 m] w fun e w' => e = .returned (.bool true) ∧ Old w w' := by
  have c2 := hide (Agree_none 0 m (by omega) w)
  go_enter Tryd.func4, Tryd.ntmps4
  go_wp2_with fail
  refine c2.out.mono ?_
  rintro e w' ⟨rfl, rfl⟩
  go_wp2_with fail
  refine c1.out.mono ?_
  rintro e w' ⟨rfl, rfl⟩
  go_wp2
  go_ret
  exact ⟨rfl, Old.refl _⟩

set_option maxHeartbeats 1000000 in
theorem Agrees_high (n m : Nat) (h : 2305843009213693949 < n) (w : World)
    (c1 : Hid (Calls Tryd.prog 9 #[] w fun e w' => e = .returned (.bool true) ∧ w' = w)) :
    Calls Tryd.prog 4 #[.int .u64 n, .int .u64 m] w fun e w' => e = .returned (.bool true) ∧ Old w w' := by
  have c2 := hide (Agree_none n m (by omega) w)
  have hb1 : decide (2305843009213693949 < (n : Int)) = true := decide_eq_true (by omega)
  go_enter Tryd.func4, Tryd.ntmps4
  go_wp2_with fail
  refine c2.out.mono ?_
  rintro e w' ⟨rfl, rfl⟩
  go_wp2_with fail
  refine c1.out.mono ?_
  rintro e w' ⟨rfl, rfl⟩
  go_wp2
  go_ret
  exact ⟨rfl, Old.refl _⟩

set_option maxHeartbeats 1000000 in
theorem Agrees_bad (n m : Nat) (h0 : 1 ≤ n) (h1 : n ≤ 2305843009213693949) (h : goodP m = false) (w : World)
    (hm : (decide ((m : Int) < 2) = true) ∨ (decide ((m : Int) < 2) = false ∧ decide (2305843009213693949 < (m : Int)) = true))
    (c1 : Hid (Calls Tryd.prog 9 #[] w fun e w' => e = .returned (.bool true) ∧ w' = w)) :
    Calls Tryd.prog 4 #[.int .u64 n, .int .u64 m] w fun e w' => e = .returned (.bool true) ∧ Old w w' := by
  have c2 := hide (Agree_bad n m h0 h1 h w)
  have hb2 : decide (2305843009213693949 < (n : Int)) = false := decide_eq_false (by omega)
  have hb0 : decide ((n : Int) < 1) = false := decide_eq_false (by omega)
  clear h h0 h1
  rcases hm with hm | ⟨hm, hm'⟩
  · go_enter Tryd.func4, Tryd.ntmps4
    go_wp2_with fail
    refine c2.out.mono ?_
    rintro e w' ⟨rfl, rfl⟩
    go_wp2_with fail
    refine c1.out.mono ?_
    rintro e w' ⟨rfl, rfl⟩
    go_wp2
    go_ret
    exact ⟨rfl, Old.refl _⟩
  · go_enter Tryd.func4, Tryd.ntmps4
    go_wp2_with fail
    refine c2.out.mono ?_
    rintro e w' ⟨rfl, rfl⟩
    go_wp2_with fail
    refine c1.out.mono ?_
    rintro e w' ⟨rfl, rfl⟩
    go_wp2
    go_ret
    exact ⟨rfl, Old.refl _⟩

set_option maxHeartbeats 1000000 in
theorem Agrees_some (n m : Nat) (h0 : 1 ≤ n) (h1 : n ≤ 2305843009213693949) (h2 : 2 ≤ m) (h3 : m ≤ 2305843009213693949) (w : World)
    (c1 : Hid (Calls Tryd.prog 9 #[] w fun e w' => e = .returned (.bool true) ∧ w' = w)) :
    Calls Tryd.prog 4 #[.int .u64 n, .int .u64 m] w fun e w' => e = .returned (.bool true) ∧ Old w w' := by
  have c2 := hide (Agree_some n m h0 h1 (by omega) (by simp [goodP, h2, h3]) w)
  have c3 := hide (R1.Pow_any m n (by omega) (by omega) w)
  have hb1 : decide (2305843009213693949 < (n : Int)) = false := decide_eq_false (by omega)
  have hb0 : decide ((n : Int) < 1) = false := decide_eq_false (by omega)
  have hb3 : decide (2305843009213693949 < (m : Int)) = false := decide_eq_false (by omega)
  have hb2 : decide ((m : Int) < 2) = false := decide_eq_false (by omega)
  have hp := powP_lt m n
  clear h0 h1 h2 h3
  go_enter Tryd.func4, Tryd.ntmps4
  go_wp2_with fail
  refine c2.out.mono ?_
  rintro e w' ⟨rfl, rfl⟩
  go_wp2_with fail
  refine c1.out.mono ?_
  rintro e w' ⟨rfl, rfl⟩
  go_wp2_with fail
  refine c3.out.mono ?_
  rintro e w' ⟨rfl, rfl⟩
  go_wp2
  go_ret
  exact ⟨rfl, Old.refl _⟩

theorem walk_GroupAgrees (v0 v1 : Value) (w : World) (h0 : IsInt .u64 v0) (h1 : IsInt .u64 v1) (ht : Tab w) :
    Calls Tryd.prog 4 #[v0, v1] w fun e w' => e = .returned (.bool true) ∧ Old w w' := by
  obtain ⟨n, hn, rfl⟩ := isU64 h0
  obtain ⟨m, hm, rfl⟩ := isU64 h1
  have c1 := hide (awake3 w ht)
  by_cases h : n < 1
  · obtain rfl : n = 0 := by omega
    exact Agrees_low m w c1
  · by_cases h' : 2305843009213693949 < n
    · exact Agrees_high n m h' w c1
    · by_cases k : m < 2
      · exact Agrees_bad n m (by omega) (by omega) (by simp [goodP]; omega) w (Or.inl (decide_eq_true (by omega))) c1
      · by_cases k' : 2305843009213693949 < m
        · exact Agrees_bad n m (by omega) (by omega) (by simp [goodP]; omega) w (Or.inr ⟨decide_eq_false (by omega), decide_eq_true (by omega)⟩) c1
        · exact Agrees_some n m (by omega) (by omega) (by omega) (by omega) w c1

/-- What Public answers, told as numbers. -/
def pubE (n : Nat) : Nat := if n < 1 ∨ 2305843009213693949 < n then 1 else 0
def pubX (n : Nat) : Nat := if n < 1 ∨ 2305843009213693949 < n then 0 else powP 37 n
theorem Public_any (n : Nat) (w : World) :
    Calls Tryd.prog 8 #[.int .u64 n] w fun e w' => e = .returned (.tuple #[.int .u64 (pubX n), .int .i64 (pubE n)]) ∧ w' = w := by
  by_cases h : n < 1 ∨ 2305843009213693949 < n
  · have e1 : pubE n = 1 := if_pos h
    have e2 : pubX n = 0 := if_pos h
    rw [e1, e2]; exact Public_none n h w
  · have e1 : pubE n = 0 := if_neg h
    have e2 : pubX n = powP 37 n := if_neg h
    rw [e1, e2]; exact Public_some n (by omega) (by omega) w

set_option maxHeartbeats 1000000 in
theorem Both_some (n m x y z : Nat) (w : World) (hx : x < 2305843009213693951) (hy : y < 2305843009213693951) (hz : 1 ≤ z) (hz' : z < 2305843009213693951)
    (c1 : Hid (Calls Tryd.prog 9 #[] w fun e w' => e = .returned (.bool true) ∧ w' = w))
    (c2 : Hid (Calls Tryd.prog 8 #[.int .u64 n] w fun e w' => e = .returned (.tuple #[.int .u64 x, .int .i64 0]) ∧ w' = w))
    (c3 : Hid (Calls Tryd.prog 8 #[.int .u64 m] w fun e w' => e = .returned (.tuple #[.int .u64 y, .int .i64 0]) ∧ w' = w))
    (g1 : Hid (goodP x = true)) (g2 : Hid (goodP y = true))
    (c4 : Hid (Calls Tryd.prog 12 #[.int .u64 n, .int .u64 y] w fun e w' => e = .returned (.tuple #[.int .u64 z, .int .i64 0]) ∧ w' = w))
    (c5 : Hid (Calls Tryd.prog 12 #[.int .u64 m, .int .u64 x] w fun e w' => e = .returned (.tuple #[.int .u64 z, .int .i64 0]) ∧ w' = w)) :
    Calls Tryd.prog 5 #[.int .u64 n, .int .u64 m] w fun e w' => e = .returned (.bool true) ∧ Old w w' := by
  have hb1 : decide (1 ≤ (z : Int)) = true := decide_eq_true (by omega)
  have hb2 : decide ((z : Int) < 2305843009213693951) = true := decide_eq_true (by omega)
  go_enter Tryd.func5, Tryd.ntmps5
  go_wp2_with fail
  refine c2.out.mono ?_
  rintro e w' ⟨rfl, rfl⟩
  go_wp2_with fail
  refine c3.out.mono ?_
  rintro e w' ⟨rfl, rfl⟩
  go_wp2_with fail
  refine (Good_any x _).mono ?_
  rintro e w' ⟨rfl, rfl⟩
  rw [g1.out]
  go_wp2_with fail
  refine (Good_any y _).mono ?_
  rintro e w' ⟨rfl, rfl⟩
  rw [g2.out]
  go_wp2_with fail
  refine c4.out.mono ?_
  rintro e w' ⟨rfl, rfl⟩
  go_wp2_with fail
  refine c5.out.mono ?_
  rintro e w' ⟨rfl, rfl⟩
  go_wp2_with fail
  refine c1.out.mono ?_
  rintro e w' ⟨rfl, rfl⟩
  go_wp2
  go_ret
  exact ⟨by first | rfl | simp [hb1, hb2], Old.refl _⟩

set_option maxHeartbeats 1000000 in
theorem Both_e (n m e0 x : Nat) (w : World) (he : ((e0 : Int) != 0) = true)
    (c1 : Hid (Calls Tryd.prog 9 #[] w fun e w' => e = .returned (.bool true) ∧ w' = w))
    (c2 : Hid (Calls Tryd.prog 8 #[.int .u64 n] w fun e w' => e = .returned (.tuple #[.int .u64 x, .int .i64 e0]) ∧ w' = w)) :
    Calls Tryd.prog 5 #[.int .u64 n, .int .u64 m] w fun e w' => e = .returned (.bool true) ∧ Old w w' := by
  go_enter Tryd.func5, Tryd.ntmps5
  go_wp2_with fail
  refine c2.out.mono ?_
  rintro e w' ⟨rfl, rfl⟩
  go_wp2_with fail
  refine (Public_any m _).mono ?_
  rintro e w' ⟨rfl, rfl⟩
  go_wp2_with fail
  refine c1.out.mono ?_
  rintro e w' ⟨rfl, rfl⟩
  go_wp2
  go_ret
  exact ⟨rfl, Old.refl _⟩

set_option maxHeartbeats 1000000 in
theorem Both_f (n m e0 x y : Nat) (w : World) (he : ((e0 : Int) != 0) = true)
    (c1 : Hid (Calls Tryd.prog 9 #[] w fun e w' => e = .returned (.bool true) ∧ w' = w))
    (c2 : Hid (Calls Tryd.prog 8 #[.int .u64 n] w fun e w' => e = .returned (.tuple #[.int .u64 x, .int .i64 0]) ∧ w' = w))
    (c3 : Hid (Calls Tryd.prog 8 #[.int .u64 m] w fun e w' => e = .returned (.tuple #[.int .u64 y, .int .i64 e0]) ∧ w' = w)) :
    Calls Tryd.prog 5 #[.int .u64 n, .int .u64 m] w fun e w' => e = .returned (.bool true) ∧ Old w w' := by
  go_enter Tryd.func5, Tryd.ntmps5
  go_wp2_with fail
  refine c2.out.mono ?_
  rintro e w' ⟨rfl, rfl⟩
  go_wp2_with fail
  refine c3.out.mono ?_
  rintro e w' ⟨rfl, rfl⟩
  go_wp2_with fail
  refine c1.out.mono ?_
  rintro e w' ⟨rfl, rfl⟩
  go_wp2
  go_ret
  exact ⟨rfl, Old.refl _⟩

set_option maxHeartbeats 1000000 in
theorem Both_x (n m x y : Nat) (w : World) (hx : x < 2305843009213693951) (hy : y < 2305843009213693951)
    (c1 : Hid (Calls Tryd.prog 9 #[] w fun e w' => e = .returned (.bool true) ∧ w' = w))
    (c2 : Hid (Calls Tryd.prog 8 #[.int .u64 n] w fun e w' => e = .returned (.tuple #[.int .u64 x, .int .i64 0]) ∧ w' = w))
    (c3 : Hid (Calls Tryd.prog 8 #[.int .u64 m] w fun e w' => e = .returned (.tuple #[.int .u64 y, .int .i64 0]) ∧ w' = w))
    (g1 : Hid (goodP x = false)) :
    Calls Tryd.prog 5 #[.int .u64 n, .int .u64 m] w fun e w' => e = .returned (.bool true) ∧ Old w w' := by
  go_enter Tryd.func5, Tryd.ntmps5
  go_wp2_with fail
  refine c2.out.mono ?_
  rintro e w' ⟨rfl, rfl⟩
  go_wp2_with fail
  refine c3.out.mono ?_
  rintro e w' ⟨rfl, rfl⟩
  go_wp2_with fail
  refine (Good_any x _).mono ?_
  rintro e w' ⟨rfl, rfl⟩
  rw [g1.out]
  go_wp2_with fail
  refine c1.out.mono ?_
  rintro e w' ⟨rfl, rfl⟩
  go_wp2
  go_ret
  exact ⟨rfl, Old.refl _⟩

set_option maxHeartbeats 1000000 in
theorem Both_y (n m x y : Nat) (w : World) (hx : x < 2305843009213693951) (hy : y < 2305843009213693951)
    (c1 : Hid (Calls Tryd.prog 9 #[] w fun e w' => e = .returned (.bool true) ∧ w' = w))
    (c2 : Hid (Calls Tryd.prog 8 #[.int .u64 n] w fun e w' => e = .returned (.tuple #[.int .u64 x, .int .i64 0]) ∧ w' = w))
    (c3 : Hid (Calls Tryd.prog 8 #[.int .u64 m] w fun e w' => e = .returned (.tuple #[.int .u64 y, .int .i64 0]) ∧ w' = w))
    (g1 : Hid (goodP x = true)) (g2 : Hid (goodP y = false)) :
    Calls Tryd.prog 5 #[.int .u64 n, .int .u64 m] w fun e w' => e = .returned (.bool true) ∧ Old w w' := by
  go_enter Tryd.func5, Tryd.ntmps5
  go_wp2_with fail
  refine c2.out.mono ?_
  rintro e w' ⟨rfl, rfl⟩
  go_wp2_with fail
  refine c3.out.mono ?_
  rintro e w' ⟨rfl, rfl⟩
  go_wp2_with fail
  refine (Good_any x _).mono ?_
  rintro e w' ⟨rfl, rfl⟩
  rw [g1.out]
  go_wp2_with fail
  refine (Good_any y _).mono ?_
  rintro e w' ⟨rfl, rfl⟩
  rw [g2.out]
  go_wp2_with fail
  refine c1.out.mono ?_
  rintro e w' ⟨rfl, rfl⟩
  go_wp2
  go_ret
  exact ⟨rfl, Old.refl _⟩

theorem both_eq (n m : Nat) : powP (powP 37 m) n = powP (powP 37 n) m := by
  rw [← powP_mul, ← powP_mul, Nat.mul_comm]
theorem powP_pos (a : Nat) (h : md a ≠ 0) : ∀ n, 1 ≤ powP a n := by
  intro n
  induction n with
  | zero => rw [powP_zero]; exact Nat.le_refl _
  | succ n ih =>
    rcases Nat.eq_zero_or_pos (powP a (n + 1)) with h0 | h0
    · rw [← powP_snoc, M.mulP_zero, md_powP] at h0
      omega
    · exact h0
theorem good_md (x : Nat) (h : goodP x = true) : md x ≠ 0 := by
  simp [goodP] at h
  rw [md_of_lt (by omega)]; omega

theorem walk_GroupBoth (v0 v1 : Value) (w : World) (h0 : IsInt .u64 v0) (h1 : IsInt .u64 v1) (ht : Tab w) :
    Calls Tryd.prog 5 #[v0, v1] w fun e w' => e = .returned (.bool true) ∧ Old w w' := by
  obtain ⟨n, hn, rfl⟩ := isU64 h0
  obtain ⟨m, hm, rfl⟩ := isU64 h1
  have c1 := hide (awake3 w ht)
  by_cases hN : n < 1 ∨ 2305843009213693949 < n
  · exact Both_e n m 1 0 w rfl c1 (hide (Public_none n hN w))
  · have cn := hide (Public_some n (by omega) (by omega) w)
    by_cases hM : m < 1 ∨ 2305843009213693949 < m
    · exact Both_f n m 1 _ 0 w rfl c1 cn (hide (Public_none m hM w))
    · have cm := hide (Public_some m (by omega) (by omega) w)
      have l1 := powP_lt 37 n
      have l2 := powP_lt 37 m
      by_cases g1 : goodP (powP 37 n) = true
      · by_cases g2 : goodP (powP 37 m) = true
        · refine Both_some n m (powP 37 n) (powP 37 m) (powP (powP 37 m) n) w l1 l2 (powP_pos _ (good_md _ g2) n) (powP_lt _ _) c1 cn cm (hide g1) (hide g2) (hide (Agree_some n (powP 37 m) (by omega) (by omega) (by omega) g2 w)) ?_
          rw [both_eq]
          exact hide (Agree_some m (powP 37 n) (by omega) (by omega) (by omega) g1 w)
        · exact Both_y n m _ _ w l1 l2 c1 cn cm (hide g1) (hide (by simpa using g2))
      · exact Both_x n m _ _ w l1 l2 c1 cn cm (hide (by simpa using g1))

theorem Public_int (z : Int) (x : Nat) (hz : z = x) (h0 : 1 ≤ x) (h1 : x ≤ 2305843009213693949) (w : World) :
    Calls Tryd.prog 8 #[.int .u64 z] w fun e w' => e = .returned (.tuple #[.int .u64 (powP 37 x), .int .i64 0]) ∧ w' = w := by
  subst hz; exact Public_some x h0 h1 w
theorem R1Pow_int (a : Nat) (z : Int) (x : Nat) (hz : z = x) (ha : a < 18446744073709551616) (hx : x < 18446744073709551616) (w : World) :
    Calls Tryd.prog 11 #[.int .u64 a, .int .u64 z] w fun e w' => e = .returned (.int .u64 (powP a x)) ∧ w' = w := by
  subst hz; exact R1.Pow_any a x ha hx w

theorem powers_sum (a b : Nat) : mulP (powP 37 (a + 1)) (powP 37 (b + 1)) = powP 37 (a + b + 2) := by
  rw [powP_add]; congr 1; omega

set_option maxHeartbeats 1000000 in
theorem walk_GroupPowers (v0 v1 : Value) (w : World) (h0 : IsInt .u32 v0) (h1 : IsInt .u32 v1) (ht : Tab w) :
    Calls Tryd.prog 7 #[v0, v1] w fun e w' => e = .returned (.bool true) ∧ Old w w' := by
  obtain ⟨a, ha, rfl⟩ := isU32 h0
  obtain ⟨b, hb, rfl⟩ := isU32 h1
  have c1 := hide (awake3 w ht)
  have l1 := powP_lt 37 (a + 1)
  have l2 := powP_lt 37 (b + 1)
  clear ht h0 h1
  go_enter Tryd.func7, Tryd.ntmps7
  go_wp2_with fail
  refine (Public_int _ (a + 1) (by omega) (by omega) (by omega) _).mono ?_
  rintro e w' ⟨rfl, rfl⟩
  go_wp2_with fail
  refine (Public_int _ (b + 1) (by omega) (by omega) (by omega) _).mono ?_
  rintro e w' ⟨rfl, rfl⟩
  go_wp2_with fail
  refine (Public_int _ (a + b + 2) (by omega) (by omega) (by omega) _).mono ?_
  rintro e w' ⟨rfl, rfl⟩
  go_wp2_with fail
  refine c1.out.mono ?_
  rintro e w' ⟨rfl, rfl⟩
  go_wp2_with fail
  refine (R1.Mul_any (powP 37 (a + 1)) (powP 37 (b + 1)) (by omega) (by omega) _).mono ?_
  rintro e w' ⟨rfl, rfl⟩
  rw [powers_sum]
  go_wp2_with fail
  refine (R1Pow_int (powP 37 (a + 1)) _ (b + 1) (by omega) (by omega) (by omega) _).mono ?_
  rintro e w' ⟨rfl, rfl⟩
  go_wp2_with fail
  refine (R1Pow_int (powP 37 (b + 1)) _ (a + 1) (by omega) (by omega) (by omega) _).mono ?_
  rintro e w' ⟨rfl, rfl⟩
  rw [both_eq (a + 1) (b + 1)]
  go_wp2
  go_ret
  exact ⟨rfl, Old.refl _⟩
end Go.Proofs.YtlicobbjcgbllaaDoor
