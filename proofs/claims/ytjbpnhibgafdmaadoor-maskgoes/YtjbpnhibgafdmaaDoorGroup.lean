/-
  What the calls of package group answer at any numbers. Order reads the package's table of primes.
-/
import Derived.Test.YtjbpnhibgafdmaaDoorPowers
import Derived.Test.YtjbpnhibgafdmaaDoorOrders
import Derived.Laws.Rows
namespace Go.Proofs.YtjbpnhibgafdmaaDoor
open Go.RowKit M
set_option linter.unusedVariables false



theorem wrap_div (o q : Nat) (ho : o ≤ 2305843009213693950) : IntKind.u64.wrap ((o : Int) / (q : Int)) = ((o / q : Nat) : Int) := by
  have h : o / q ≤ o := Nat.div_le_self _ _
  rw [← Int.natCast_ediv]
  generalize o / q = z at h ⊢
  rw [IntKind.wrap_u64]; omega

theorem Good_yes (a : Nat) (h1 : 2 ≤ a) (h2 : a ≤ 2305843009213693949) (w : World) :
    Calls Tryd.prog 35 #[.int .u64 a] w fun e w' => e = .returned (.bool true) ∧ w' = w := by
  go_enter Tryd.func35, Tryd.ntmps35
  go_wp2
  go_ret
  have hb : decide ((a : Int) ≤ 2305843009213693949) = true := decide_eq_true (by omega)
  exact ⟨by show Ending.returned (.bool (decide ((a : Int) ≤ 2305843009213693949))) = _; rw [hb], rfl⟩

theorem Good_low (a : Nat) (h1 : a < 2) (w : World) :
    Calls Tryd.prog 35 #[.int .u64 a] w fun e w' => e = .returned (.bool false) ∧ w' = w := by
  go_enter Tryd.func35, Tryd.ntmps35
  go_wp2
  go_ret
  exact ⟨rfl, rfl⟩

theorem Good_high (a : Nat) (h1 : 2305843009213693949 < a) (w : World) :
    Calls Tryd.prog 35 #[.int .u64 a] w fun e w' => e = .returned (.bool false) ∧ w' = w := by
  go_enter Tryd.func35, Tryd.ntmps35
  go_wp2
  go_ret
  have hb : decide ((a : Int) ≤ 2305843009213693949) = false := decide_eq_false (by omega)
  exact ⟨by show Ending.returned (.bool (decide ((a : Int) ≤ 2305843009213693949))) = _; rw [hb], rfl⟩

def goodP (a : Nat) : Bool := decide (2 ≤ a) && decide (a ≤ 2305843009213693949)
theorem Good_any (a : Nat) (w : World) :
    Calls Tryd.prog 35 #[.int .u64 a] w fun e w' => e = .returned (.bool (goodP a)) ∧ w' = w := by
  by_cases h1 : 2 ≤ a
  · by_cases h2 : a ≤ 2305843009213693949
    · have e : goodP a = true := by simp [goodP, h1, h2]
      rw [e]; exact Good_yes a h1 h2 w
    · have e : goodP a = false := by simp [goodP, h2]
      rw [e]; exact Good_high a (by omega) w
  · have e : goodP a = false := by simp [goodP, h1]
    rw [e]; exact Good_low a (by omega) w

theorem power_any (x a : Nat) (hx : x < 18446744073709551616) (ha : a < 18446744073709551616) (w : World) :
    Calls Tryd.prog 44 #[.int .u64 x, .int .u64 a] w fun e w' => e = .returned (.int .u64 (powP a x)) ∧ w' = w := by
  go_enter Tryd.func44, Tryd.ntmps44
  go_wp2_with fail
  refine (Pow_any a x ha hx _).mono ?_
  rintro e w' ⟨rfl, rfl⟩
  go_wp2
  go_ret
  exact ⟨rfl, rfl⟩

theorem powers_low (w : World) :
    Calls Tryd.prog 34 #[.int .u64 (0 : Nat)] w fun e w' => e = .returned (.tuple #[.nilFunc, .int .i64 1]) ∧ w' = w := by
  go_enter Tryd.func34, Tryd.ntmps34
  go_wp2
  go_ret2
  exact ⟨rfl, rfl⟩

theorem powers_high (x : Nat) (h1 : 2305843009213693949 < x) (w : World) :
    Calls Tryd.prog 34 #[.int .u64 x] w fun e w' => e = .returned (.tuple #[.nilFunc, .int .i64 1]) ∧ w' = w := by
  go_enter Tryd.func34, Tryd.ntmps34
  go_wp2
  go_ret2
  exact ⟨rfl, rfl⟩

theorem powers_some (x : Nat) (h0 : 1 ≤ x) (h1 : x ≤ 2305843009213693949) (w : World) :
    Calls Tryd.prog 34 #[.int .u64 x] w fun e w' => e = .returned (.tuple #[.func (.func 44) #[.int .u64 x] #[], .int .i64 0]) ∧ w' = w := by
  have hmf : ∀ (fn : Fn) (first cap : Array Value) (w : World), (Instr.makeFunc fn first cap).run Tryd.prog w = .ok (.func fn first cap) w := fun _ _ _ _ => rfl
  go_enter Tryd.func34, Tryd.ntmps34
  go_wp2
  go_ret2
  exact ⟨rfl, rfl⟩





theorem powers_none (x : Nat) (h : x < 1 ∨ 2305843009213693949 < x) (w : World) :
    Calls Tryd.prog 34 #[.int .u64 x] w fun e w' => e = .returned (.tuple #[.nilFunc, .int .i64 1]) ∧ w' = w := by
  rcases h with h | h
  · obtain rfl : x = 0 := by omega
    exact powers_low w
  · exact powers_high x h w

theorem Agree_none (x y : Nat) (h : x < 1 ∨ 2305843009213693949 < x) (w : World) :
    Calls Tryd.prog 22 #[.int .u64 x, .int .u64 y] w fun e w' => e = .returned (.tuple #[.int .u64 0, .int .i64 1]) ∧ w' = w := by
  have c := powers_none x h
  clear h
  go_enter Tryd.func22, Tryd.ntmps22
  go_wp2_with fail
  refine (c _).mono ?_
  rintro e w' ⟨rfl, rfl⟩
  go_wp2
  go_ret2
  exact ⟨rfl, rfl⟩

theorem Agree_bad (x y : Nat) (h0 : 1 ≤ x) (h1 : x ≤ 2305843009213693949) (h : goodP y = false) (w : World) :
    Calls Tryd.prog 22 #[.int .u64 x, .int .u64 y] w fun e w' => e = .returned (.tuple #[.int .u64 0, .int .i64 16]) ∧ w' = w := by
  go_enter Tryd.func22, Tryd.ntmps22
  go_wp2_with fail
  refine (powers_some x h0 h1 _).mono ?_
  rintro e w' ⟨rfl, rfl⟩
  go_wp2_with fail
  refine (Good_any y _).mono ?_
  rintro e w' ⟨rfl, rfl⟩
  rw [h]
  go_wp2
  go_ret2
  exact ⟨rfl, rfl⟩

theorem Agree_some (x y : Nat) (h0 : 1 ≤ x) (h1 : x ≤ 2305843009213693949) (h2 : y < 18446744073709551616) (h : goodP y = true) (w : World) :
    Calls Tryd.prog 22 #[.int .u64 x, .int .u64 y] w fun e w' => e = .returned (.tuple #[.int .u64 (powP y x), .int .i64 0]) ∧ w' = w := by
  go_enter Tryd.func22, Tryd.ntmps22
  go_wp2_with fail
  refine (powers_some x h0 h1 _).mono ?_
  rintro e w' ⟨rfl, rfl⟩
  go_wp2_with fail
  refine (Good_any y _).mono ?_
  rintro e w' ⟨rfl, rfl⟩
  rw [h]
  go_wp2_with fail
  refine (power_any x y (by omega) h2 _).mono ?_
  rintro e w' ⟨rfl, rfl⟩
  go_wp2
  go_ret2
  exact ⟨rfl, rfl⟩



end Go.Proofs.YtjbpnhibgafdmaaDoor