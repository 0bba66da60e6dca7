/-
  What the calls of package group answer at any numbers. Order reads the package's table of primes.
-/
import Derived.Test.YtlicobbjcgbllaaDoorPowers
import Derived.Test.YtlicobbjcgbllaaDoorOrders
import Derived.Laws.Rows
namespace Go.Proofs.YtlicobbjcgbllaaDoor
open Go.RowKit M
set_option linter.unusedVariables false

def tab : Array Value := #[.int .u64 2, .int .u64 3, .int .u64 3, .int .u64 5, .int .u64 5, .int .u64 7, .int .u64 11, .int .u64 13, .int .u64 31, .int .u64 41, .int .u64 61, .int .u64 151, .int .u64 331, .int .u64 1321]
/-- The package's table lies in the world as its initialiser lays it. -/
def Tab (w : World) : Prop := ∃ t fr, w.heap[0]? = some (.cells tab t fr)
theorem tabAt (k : Nat) (hk : k < 14) : ∃ q : Nat, (∀ w : World, (Instr.index 40 (.agg tab) (.int .i64 (k : Nat))).run Tryd.prog w = .ok (.int .u64 (q : Nat)) w) ∧ facs[k]? = some q ∧ 2 ≤ q ∧ q ≤ 1321 := by
  match k, hk with
  | 0, _ => exact ⟨2, fun w => by kernel_rfl, rfl, by omega, by omega⟩
  | 1, _ => exact ⟨3, fun w => by kernel_rfl, rfl, by omega, by omega⟩
  | 2, _ => exact ⟨3, fun w => by kernel_rfl, rfl, by omega, by omega⟩
  | 3, _ => exact ⟨5, fun w => by kernel_rfl, rfl, by omega, by omega⟩
  | 4, _ => exact ⟨5, fun w => by kernel_rfl, rfl, by omega, by omega⟩
  | 5, _ => exact ⟨7, fun w => by kernel_rfl, rfl, by omega, by omega⟩
  | 6, _ => exact ⟨11, fun w => by kernel_rfl, rfl, by omega, by omega⟩
  | 7, _ => exact ⟨13, fun w => by kernel_rfl, rfl, by omega, by omega⟩
  | 8, _ => exact ⟨31, fun w => by kernel_rfl, rfl, by omega, by omega⟩
  | 9, _ => exact ⟨41, fun w => by kernel_rfl, rfl, by omega, by omega⟩
  | 10, _ => exact ⟨61, fun w => by kernel_rfl, rfl, by omega, by omega⟩
  | 11, _ => exact ⟨151, fun w => by kernel_rfl, rfl, by omega, by omega⟩
  | 12, _ => exact ⟨331, fun w => by kernel_rfl, rfl, by omega, by omega⟩
  | 13, _ => exact ⟨1321, fun w => by kernel_rfl, rfl, by omega, by omega⟩

theorem wrap_div (o q : Nat) (ho : o ≤ 2305843009213693950) : IntKind.u64.wrap ((o : Int) / (q : Int)) = ((o / q : Nat) : Int) := by
  have h : o / q ≤ o := Nat.div_le_self _ _
  rw [← Int.natCast_ediv]
  generalize o / q = z at h ⊢
  rw [IntKind.wrap_u64]; omega

theorem Good_yes (a : Nat) (h1 : 2 ≤ a) (h2 : a ≤ 2305843009213693949) (w : World) :
    Calls Tryd.prog 10 #[.int .u64 a] w fun e w' => e = .returned (.bool true) ∧ w' = w := by
  go_enter Tryd.func10, Tryd.ntmps10
  go_wp2
  go_ret
  have hb : decide ((a : Int) ≤ 2305843009213693949) = true := decide_eq_true (by omega)
  exact ⟨by show Ending.returned (.bool (decide ((a : Int) ≤ 2305843009213693949))) = _; rw [hb], rfl⟩

theorem Good_low (a : Nat) (h1 : a < 2) (w : World) :
    Calls Tryd.prog 10 #[.int .u64 a] w fun e w' => e = .returned (.bool false) ∧ w' = w := by
  go_enter Tryd.func10, Tryd.ntmps10
  go_wp2
  go_ret
  exact ⟨rfl, rfl⟩

theorem Good_high (a : Nat) (h1 : 2305843009213693949 < a) (w : World) :
    Calls Tryd.prog 10 #[.int .u64 a] w fun e w' => e = .returned (.bool false) ∧ w' = w := by
  go_enter Tryd.func10, Tryd.ntmps10
  go_wp2
  go_ret
  have hb : decide ((a : Int) ≤ 2305843009213693949) = false := decide_eq_false (by omega)
  exact ⟨by show Ending.returned (.bool (decide ((a : Int) ≤ 2305843009213693949))) = _; rw [hb], rfl⟩

def goodP (a : Nat) : Bool := decide (2 ≤ a) && decide (a ≤ 2305843009213693949)
theorem Good_any (a : Nat) (w : World) :
    Calls Tryd.prog 10 #[.int .u64 a] w fun e w' => e = .returned (.bool (goodP a)) ∧ w' = w := by
  by_cases h1 : 2 ≤ a
  · by_cases h2 : a ≤ 2305843009213693949
    · have e : goodP a = true := by simp [goodP, h1, h2]
      rw [e]; exact Good_yes a h1 h2 w
    · have e : goodP a = false := by simp [goodP, h2]
      rw [e]; exact Good_high a (by omega) w
  · have e : goodP a = false := by simp [goodP, h1]
    rw [e]; exact Good_low a (by omega) w

theorem power_any (x a : Nat) (hx : x < 18446744073709551616) (ha : a < 18446744073709551616) (w : World) :
    Calls Tryd.prog 17 #[.int .u64 x, .int .u64 a] w fun e w' => e = .returned (.int .u64 (powP a x)) ∧ w' = w := by
  go_enter Tryd.func17, Tryd.ntmps17
  go_wp2_with fail
  refine (Pow_any a x ha hx _).mono ?_
  rintro e w' ⟨rfl, rfl⟩
  go_wp2
  go_ret
  exact ⟨rfl, rfl⟩

theorem powers_low (w : World) :
    Calls Tryd.prog 15 #[.int .u64 (0 : Nat)] w fun e w' => e = .returned (.tuple #[.nilFunc, .int .i64 1]) ∧ w' = w := by
  go_enter Tryd.func15, Tryd.ntmps15
  go_wp2
  go_ret2
  exact ⟨rfl, rfl⟩

theorem powers_high (x : Nat) (h1 : 2305843009213693949 < x) (w : World) :
    Calls Tryd.prog 15 #[.int .u64 x] w fun e w' => e = .returned (.tuple #[.nilFunc, .int .i64 1]) ∧ w' = w := by
  go_enter Tryd.func15, Tryd.ntmps15
  go_wp2
  go_ret2
  exact ⟨rfl, rfl⟩

theorem powers_some (x : Nat) (h0 : 1 ≤ x) (h1 : x ≤ 2305843009213693949) (w : World) :
    Calls Tryd.prog 15 #[.int .u64 x] w fun e w' => e = .returned (.tuple #[.func (.func 17) #[.int .u64 x] #[], .int .i64 0]) ∧ w' = w := by
  have hmf : ∀ (fn : Fn) (first cap : Array Value) (w : World), (Instr.makeFunc fn first cap).run Tryd.prog w = .ok (.func fn first cap) w := fun _ _ _ _ => rfl
  go_enter Tryd.func15, Tryd.ntmps15
  go_wp2
  go_ret2
  exact ⟨rfl, rfl⟩

theorem Public_none (x : Nat) (h : x < 1 ∨ 2305843009213693949 < x) (w : World) :
    Calls Tryd.prog 8 #[.int .u64 x] w fun e w' => e = .returned (.tuple #[.int .u64 0, .int .i64 1]) ∧ w' = w := by
  have c : Calls Tryd.prog 15 #[.int .u64 x] w fun e w' => e = .returned (.tuple #[.nilFunc, .int .i64 1]) ∧ w' = w := by
    rcases h with h | h
    · obtain rfl : x = 0 := by omega
      exact powers_low w
    · exact powers_high x h w
  go_enter Tryd.func8, Tryd.ntmps8
  go_wp2_with fail
  refine c.mono ?_
  rintro e w' ⟨rfl, rfl⟩
  go_wp2
  go_ret2
  exact ⟨rfl, rfl⟩

theorem Public_some (x : Nat) (h0 : 1 ≤ x) (h1 : x ≤ 2305843009213693949) (w : World) :
    Calls Tryd.prog 8 #[.int .u64 x] w fun e w' => e = .returned (.tuple #[.int .u64 (powP 37 x), .int .i64 0]) ∧ w' = w := by
  go_enter Tryd.func8, Tryd.ntmps8
  go_wp2_with fail
  refine (powers_some x h0 h1 _).mono ?_
  rintro e w' ⟨rfl, rfl⟩
  go_wp2_with fail
  refine (power_any x 37 (by omega) (by omega) _).mono ?_
  rintro e w' ⟨rfl, rfl⟩
  go_wp2
  go_ret2
  exact ⟨rfl, rfl⟩

theorem powers_none (x : Nat) (h : x < 1 ∨ 2305843009213693949 < x) (w : World) :
    Calls Tryd.prog 15 #[.int .u64 x] w fun e w' => e = .returned (.tuple #[.nilFunc, .int .i64 1]) ∧ w' = w := by
  rcases h with h | h
  · obtain rfl : x = 0 := by omega
    exact powers_low w
  · exact powers_high x h w

theorem Agree_none (x y : Nat) (h : x < 1 ∨ 2305843009213693949 < x) (w : World) :
    Calls Tryd.prog 12 #[.int .u64 x, .int .u64 y] w fun e w' => e = .returned (.tuple #[.int .u64 0, .int .i64 1]) ∧ w' = w := by
  have c := powers_none x h
  clear h
  go_enter Tryd.func12, Tryd.ntmps12
  go_wp2_with fail
  refine (c _).mono ?_
  rintro e w' ⟨rfl, rfl⟩
  go_wp2
  go_ret2
  exact ⟨rfl, rfl⟩

theorem Agree_bad (x y : Nat) (h0 : 1 ≤ x) (h1 : x ≤ 2305843009213693949) (h : goodP y = false) (w : World) :
    Calls Tryd.prog 12 #[.int .u64 x, .int .u64 y] w fun e w' => e = .returned (.tuple #[.int .u64 0, .int .i64 16]) ∧ w' = w := by
  go_enter Tryd.func12, Tryd.ntmps12
  go_wp2_with fail
  refine (powers_some x h0 h1 _).mono ?_
  rintro e w' ⟨rfl, rfl⟩
  go_wp2_with fail
  refine (Good_any y _).mono ?_
  rintro e w' ⟨rfl, rfl⟩
  rw [h]
  go_wp2
  go_ret2
  exact ⟨rfl, rfl⟩

theorem Agree_some (x y : Nat) (h0 : 1 ≤ x) (h1 : x ≤ 2305843009213693949) (h2 : y < 18446744073709551616) (h : goodP y = true) (w : World) :
    Calls Tryd.prog 12 #[.int .u64 x, .int .u64 y] w fun e w' => e = .returned (.tuple #[.int .u64 (powP y x), .int .i64 0]) ∧ w' = w := by
  go_enter Tryd.func12, Tryd.ntmps12
  go_wp2_with fail
  refine (powers_some x h0 h1 _).mono ?_
  rintro e w' ⟨rfl, rfl⟩
  go_wp2_with fail
  refine (Good_any y _).mono ?_
  rintro e w' ⟨rfl, rfl⟩
  rw [h]
  go_wp2_with fail
  refine (power_any x y (by omega) h2 _).mono ?_
  rintro e w' ⟨rfl, rfl⟩
  go_wp2
  go_ret2
  exact ⟨rfl, rfl⟩

theorem Order_low (w : World) :
    Calls Tryd.prog 13 #[.int .u64 (0 : Nat)] w fun e w' => e = .returned (.tuple #[.int .u64 0, .int .i64 1]) ∧ w' = w := by
  go_enter Tryd.func13, Tryd.ntmps13
  go_wp2
  go_ret2
  exact ⟨rfl, rfl⟩
theorem Order_high (a : Nat) (h : 2305843009213693950 < a) (w : World) :
    Calls Tryd.prog 13 #[.int .u64 a] w fun e w' => e = .returned (.tuple #[.int .u64 0, .int .i64 1]) ∧ w' = w := by
  go_enter Tryd.func13, Tryd.ntmps13
  go_wp2
  go_ret2
  exact ⟨rfl, rfl⟩
theorem Order_none (a : Nat) (h : a < 1 ∨ 2305843009213693950 < a) (w : World) :
    Calls Tryd.prog 13 #[.int .u64 a] w fun e w' => e = .returned (.tuple #[.int .u64 0, .int .i64 1]) ∧ w' = w := by
  rcases h with h | h
  · obtain rfl : a = 0 := by omega
    exact Order_low w
  · exact Order_high a h w

set_option maxHeartbeats 1000000 in
theorem Order_some (a : Nat) (h0 : 1 ≤ a) (h1 : a ≤ 2305843009213693950) (w : World) (ht : Tab w) :
    Calls Tryd.prog 13 #[.int .u64 a] w fun e w' => e = .returned (.tuple #[.int .u64 (ordP a), .int .i64 0]) ∧ w' = w := by
  obtain ⟨t, fr, hr⟩ := ht
  go_enter Tryd.func13, Tryd.ntmps13
  go_wp2_with (refine wpList_load_row rfl 40 _ rfl 0 rfl t _ fr _ hr Tryd.underlying40 rfl (by kernel_rfl) ?_)
  go_loop [4, 14] (fun vo vi => ∃ k o : Nat, vi = .int .i64 (k : Nat) ∧ vo = .int .u64 o ∧ k ≤ 14 ∧ o ≤ 2305843009213693950 ∧ Hid (o = foldO a (facs.take k) 2305843009213693950)) (fun _ vi => (14 - intOf vi).toNat)
  case atStart => exact ⟨0, 2305843009213693950, rfl, rfl, by omega, by omega, rfl⟩
  case round =>
    obtain ⟨k, o, rfl, rfl, hk, ho, HR⟩ := hrel
    by_cases hk14 : k = 14
    · subst hk14
      go_wp2
      go_ret2
      refine ⟨?_, rfl⟩
      have h := HR.out
      rw [h]
      rfl
    · obtain ⟨q, hq1, hq2, hq3, hq4⟩ := tabAt k (by omega)
      have hb : decide ((k : Int) < 14) = true := decide_eq_true (by omega)
      have hq0 : ((q : Int) == 0) = false := by simp; omega
      have hqq : o / q ≤ 2305843009213693950 := Nat.le_trans (Nat.div_le_self _ _) ho
      have HQ : Hid (facs[k]? = some q) := hq2
      clear hq2
      go_wp2_with fail
      rw [wrap_div o q ho]
      refine (Pow_any a (o / q) (by omega) (by omega) _).mono ?_
      rintro e w' ⟨rfl, rfl⟩
      have hs := foldO_take a 2305843009213693950 k q HQ.out
      have h := HR.out
      rw [← h] at hs
      by_cases hp : powP a (o / q) = 1
      · rw [hp]
        have HS : Hid (foldO a (facs.take (k + 1)) 2305843009213693950 = o / q) := by
          show _ = _
          rw [hs, stepO, if_pos hp]
        clear hs h hp
        go_wp2
        go_round
        case rel => exact ⟨k + 1, o / q, by go_num, by rw [wrap_div o q ho], by omega, hqq, HS.out.symm⟩
        case measure => simp [intOf]; omega
      · have HS : Hid (foldO a (facs.take (k + 1)) 2305843009213693950 = o) := by
          show _ = _
          rw [hs, stepO, if_neg hp]
        have hpb : (((powP a (o / q) : Nat) : Int) == 1) = false := by
          rw [beq_eq_false_iff_ne]; exact fun h => hp (by exact_mod_cast h)
        clear hs h hp
        go_wp2
        go_round
        case rel => exact ⟨k + 1, o, by go_num, rfl, by omega, ho, HS.out.symm⟩
        case measure => simp [intOf]; omega
end Go.Proofs.YtlicobbjcgbllaaDoor
