/-
  The walk of GroupOrders: the law returns true at any numbers, where the package's table is as its initialiser lays it.
-/
import Derived.Test.YtlicobbjcgbllaaDoorLaws3
import Derived.Test.YtlicobbjcgbllaaDoorLaid3
namespace Go.Proofs.YtlicobbjcgbllaaDoor
open Go.RowKit M
set_option linter.unusedVariables false

theorem Tab.mono {w w' : World} (h : Tab w) (o : Old w w') : Tab w' := by
  obtain ⟨t, fr, hr⟩ := h
  exact ⟨t, fr, (o.block 0 (Array.getElem?_eq_some_iff.1 hr).1).trans hr⟩

theorem prms_at (k : Nat) (hk : k < 12) : ∃ q, prms[k]? = some q ∧ 2 ≤ q ∧ q ≤ 1321 ∧ q ∈ prms := by
  match k, hk with
  | 0, _ => exact ⟨2, rfl, by omega, by omega, by decide⟩
  | 1, _ => exact ⟨3, rfl, by omega, by omega, by decide⟩
  | 2, _ => exact ⟨5, rfl, by omega, by omega, by decide⟩
  | 3, _ => exact ⟨7, rfl, by omega, by omega, by decide⟩
  | 4, _ => exact ⟨11, rfl, by omega, by omega, by decide⟩
  | 5, _ => exact ⟨13, rfl, by omega, by omega, by decide⟩
  | 6, _ => exact ⟨31, rfl, by omega, by omega, by decide⟩
  | 7, _ => exact ⟨41, rfl, by omega, by omega, by decide⟩
  | 8, _ => exact ⟨61, rfl, by omega, by omega, by decide⟩
  | 9, _ => exact ⟨151, rfl, by omega, by omega, by decide⟩
  | 10, _ => exact ⟨331, rfl, by omega, by omega, by decide⟩
  | 11, _ => exact ⟨1321, rfl, by omega, by omega, by decide⟩

theorem prm_cell (w : World) (j q : Nat) (h : prms[j]? = some q) : (w.alloc (.cells #[.int .u64 2, .int .u64 3, .int .u64 5, .int .u64 7, .int .u64 11, .int .u64 13, .int .u64 31, .int .u64 41, .int .u64 61, .int .u64 151, .int .u64 331, .int .u64 1321] 22)).cell? ⟨w.heap.size, j, none⟩ = some (.int .u64 (q : Int)) := by
  have hR : Rd (w.alloc (.cells #[.int .u64 2, .int .u64 3, .int .u64 5, .int .u64 7, .int .u64 11, .int .u64 13, .int .u64 31, .int .u64 41, .int .u64 61, .int .u64 151, .int .u64 331, .int .u64 1321] 22)) (some ⟨w.heap.size, 0, none⟩) (nums .u64 prms) := rd_new rfl rfl
  obtain ⟨b, off, ha, hc⟩ := hR j (.int .u64 (q : Int)) (by simp [nums, h])
  obtain ⟨rfl, rfl⟩ : w.heap.size = b ∧ 0 = off := by simpa using ha
  simpa using hc

theorem mod_int (x z : Nat) (h : x % z = 0) : (x : Int) % (z : Int) = 0 := by
  rw [← Int.natCast_emod, h]; rfl
theorem mod_int_ne (x z : Nat) (h : x % z ≠ 0) : (((x : Int) % (z : Int)) == 0) = false := by
  rw [beq_eq_false_iff_ne]
  intro e
  rw [← Int.natCast_emod] at e
  exact h (by exact_mod_cast e)

set_option maxHeartbeats 1000000 in
theorem Orders_low (k : Nat) (w : World)
    (c1 : Hid (Calls Tryd.prog 9 #[] w fun e w' => e = .returned (.bool true) ∧ w' = w)) :
    Calls Tryd.prog 6 #[.int .u64 (0 : Nat), .int .u16 k] w fun e w' => e = .returned (.bool true) ∧ Old w w' := by
  go_enter Tryd.func6, Tryd.ntmps6
  go_wp2_with fail
  refine (Order_low _).mono ?_
  rintro e w' ⟨rfl, rfl⟩
  go_wp2_with fail
  refine c1.out.mono ?_
  rintro e w' ⟨rfl, rfl⟩
  go_wp2
  go_ret
  exact ⟨rfl, Old.refl _⟩

set_option maxHeartbeats 1000000 in
theorem Orders_high (a k : Nat) (h : 2305843009213693950 < a) (w : World)
    (c1 : Hid (Calls Tryd.prog 9 #[] w fun e w' => e = .returned (.bool true) ∧ w' = w)) :
    Calls Tryd.prog 6 #[.int .u64 a, .int .u16 k] w fun e w' => e = .returned (.bool true) ∧ Old w w' := by
  go_enter Tryd.func6, Tryd.ntmps6
  go_wp2_with fail
  refine (Order_high a h _).mono ?_
  rintro e w' ⟨rfl, rfl⟩
  go_wp2_with fail
  refine c1.out.mono ?_
  rintro e w' ⟨rfl, rfl⟩
  go_wp2
  go_ret
  exact ⟨rfl, Old.refl _⟩

set_option maxHeartbeats 1000000 in
theorem Orders_some (a k z : Nat) (h0 : 1 ≤ a) (h1 : a ≤ 2305843009213693950) (hk : k < 65536) (w : World) (ht : Hid (Tab w))
    (hz0 : 1 ≤ z) (hz1 : z ≤ 2305843009213693950) (hz2 : 2305843009213693950 % z = 0)
    (hD : Hid (∀ q, q ∈ prms → Done a q z)) (hL : Hid (∀ k, 0 < k → k < z → powP a k ≠ 1))
    (c2 : Hid (Calls Tryd.prog 13 #[.int .u64 a] w fun e w' => e = .returned (.tuple #[.int .u64 z, .int .i64 0]) ∧ w' = w))
    (c3 : Hid (Calls Tryd.prog 11 #[.int .u64 a, .int .u64 z] w fun e w' => e = .returned (.int .u64 1) ∧ w' = w)) :
    Calls Tryd.prog 6 #[.int .u64 a, .int .u16 k] w fun e w' => e = .returned (.bool true) ∧ Old w w' := by
  have e0 : decide ((a : Int) < 1) = false := decide_eq_false (by omega)
  have e1 : decide (2305843009213693950 < (a : Int)) = false := decide_eq_false (by omega)
  have e2 : decide ((z : Int) < 1) = false := decide_eq_false (by omega)
  have e3 : ((z : Int) == 0) = false := by rw [beq_eq_false_iff_ne]; omega
  have e4 : (2305843009213693950 % (z : Int)) = 0 := mod_int 2305843009213693950 z hz2
  clear hz2
  go_enter Tryd.func6, Tryd.ntmps6
  go_wp2_with fail
  refine c2.out.mono ?_
  rintro e w' ⟨rfl, rfl⟩
  go_wp2_with fail
  refine c3.out.mono ?_
  rintro e w' ⟨rfl, rfl⟩
  go_wp2_with fail
  go_loop [8] (fun vi => ∃ j : Nat, vi = .int .i64 (j : Nat) ∧ j ≤ 12) (fun vi => (12 - intOf vi).toNat)
  case atStart => exact ⟨0, rfl, by omega⟩
  case round =>
    obtain ⟨j, rfl, hj⟩ := hrel
    by_cases hj12 : j = 12
    · subst hj12
      by_cases hk0 : k = 0
      · subst hk0
        go_wp2_with fail
        refine (awake3 _ (ht.out.mono (Old.of_alloc _ _))).mono ?_
        rintro e w2 ⟨rfl, rfl⟩
        go_wp2
        go_ret
        exact ⟨rfl, Old.of_alloc _ _⟩
      · have e5 : ((k : Int) == 0) = false := by rw [beq_eq_false_iff_ne]; omega
        by_cases hkz : z ≤ k
        · have e6 : decide ((z : Int) ≤ (k : Int)) = true := decide_eq_true (by omega)
          go_wp2_with fail
          refine (awake3 _ (ht.out.mono (Old.of_alloc _ _))).mono ?_
          rintro e w2 ⟨rfl, rfl⟩
          go_wp2
          go_ret
          exact ⟨rfl, Old.of_alloc _ _⟩
        · have e6 : decide ((z : Int) ≤ (k : Int)) = false := decide_eq_false (by omega)
          have hp := hL.out k (by omega) (by omega)
          have e7 : (((powP a k : Nat) : Int) == 1) = false := by rw [beq_eq_false_iff_ne]; exact fun h => hp (by exact_mod_cast h)
          have e8 : (((powP a k : Nat) : Int) != 1) = true := by rw [bne_iff_ne]; exact fun h => hp (by exact_mod_cast h)
          clear hp
          go_wp2_with fail
          refine (awake3 _ (ht.out.mono (Old.of_alloc _ _))).mono ?_
          rintro e w2 ⟨rfl, rfl⟩
          go_wp2_with fail
          refine (R1.Pow_any a k (by omega) (by omega) _).mono ?_
          rintro e w2 ⟨rfl, rfl⟩
          go_wp2
          go_ret
          exact ⟨rfl, Old.of_alloc _ _⟩
    · obtain ⟨q, hq1, hq2, hq3, hq4⟩ := prms_at j (by omega)
      have hc := prm_cell w' j q hq1
      have hji : (0 : Int) ≤ (j : Int) := by omega
      have hji2 : (j : Int) < 12 := by omega
      have hD' := hD.out q hq4
      clear hq1 hq4
      have e9 : ((q : Int) == 0) = false := by rw [beq_eq_false_iff_ne]; omega
      by_cases hdv : z % q = 0
      · have e5 : ((z : Int) % (q : Int)) = 0 := mod_int z q hdv
        have hp := hD' (Nat.dvd_of_mod_eq_zero hdv)
        have e7 : (((powP a (z / q) : Nat) : Int) == 1) = false := by rw [beq_eq_false_iff_ne]; exact fun h => hp (by exact_mod_cast h)
        have hzq : z / q ≤ z := Nat.div_le_self _ _
        clear hp hD' hdv
        go_wp2_with fail
        rw [wrap_div z q hz1]
        refine (R1.Pow_any a (z / q) (by omega) (by omega) _).mono ?_
        rintro e w2 ⟨rfl, rfl⟩
        go_wp2
        go_round
        case rel => exact ⟨j + 1, by go_num, by omega⟩
        case measure => simp [intOf]; omega
      · have e5 := mod_int_ne z q hdv
        clear hD' hdv
        go_wp2
        go_round
        case rel => exact ⟨j + 1, by go_num, by omega⟩
        case measure => simp [intOf]; omega

theorem walk_GroupOrders (v0 v1 : Value) (w : World) (h0 : IsInt .u64 v0) (h1 : IsInt .u16 v1) (ht : Tab w) :
    Calls Tryd.prog 6 #[v0, v1] w fun e w' => e = .returned (.bool true) ∧ Old w w' := by
  obtain ⟨a, ha, rfl⟩ := isU64 h0
  obtain ⟨k, hk, rfl⟩ := isU16 h1
  have c1 := hide (awake3 w ht)
  by_cases h : a < 1
  · obtain rfl : a = 0 := by omega
    exact Orders_low k w c1
  · by_cases h' : 2305843009213693950 < a
    · exact Orders_high a k h' w c1
    · have hm : a % 2305843009213693951 ≠ 0 := by omega
      have hz0 := ord_pos a hm
      have hz1 := ord_le a hm
      have hz2 := Nat.mod_eq_zero_of_dvd (ord_div a hm)
      refine Orders_some a k (ordP a) (by omega) (by omega) hk w (hide ht) hz0 hz1 hz2 (hide fun q hq => prms_done a q hm hq) (hide fun k k0 kz => ord_least a k hm k0 kz) (hide (Order_some a (by omega) (by omega) w ht)) ?_
      have := R1.Pow_any a (ordP a) (by omega) (by omega) w
      rw [ord_one a hm] at this
      exact hide this
end Go.Proofs.YtlicobbjcgbllaaDoor
