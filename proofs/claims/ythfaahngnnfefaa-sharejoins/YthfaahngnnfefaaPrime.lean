/-
  What the functions of package prime answer, called with any numbers: a contract a function; none of them touches memory.
-/
import Derived.Test.YthfaahngnnfefaaProg
import Derived.Test.YthfaahngnnfefaaMath
import Derived.WalkKit
import Derived.WalkLawsBesides
import Derived.WalkSpells
import Derived.Shelf.Bits.Mul64
import Derived.Laws.Bits64b
namespace Go.Proofs.Ythfaahngnnfefaa
open Go.RowKit M
set_option linter.unusedVariables false

theorem retN {k : IntKind} {a b : Int} (h : a = b) : Ending.returned (.int k a) = .returned (.int k b) := by rw [h]

set_option maxHeartbeats 400000 in
theorem of_any (x : Nat) (hx : x < 18446744073709551616) (w : World) :
    Calls Try.prog 52 #[.int .u64 x] w fun e w' => e = .returned (.int .u64 (md x)) ∧ w' = w := by
  go_enter Try.func52, Try.ntmps52
  go_wp2
  go_ret
  exact ⟨retN (by unfold md; omega), rfl⟩
theorem of_int (z : Int) (x : Nat) (hz : z = x) (hx : x < 18446744073709551616) (w : World) :
    Calls Try.prog 52 #[.int .u64 z] w fun e w' => e = .returned (.int .u64 (md x)) ∧ w' = w := by
  subst hz; exact of_any x hx w

set_option maxHeartbeats 400000 in
theorem plus_any (a b : Nat) (ha : a < 2305843009213693951) (hb : b < 2305843009213693951) (w : World) :
    Calls Try.prog 50 #[.int .u64 a, .int .u64 b] w fun e w' => e = .returned (.int .u64 (addP a b)) ∧ w' = w := by
  go_enter Try.func50, Try.ntmps50
  go_wp2_with fail
  refine (of_int _ (a + b) (by omega) (by omega) _).mono ?_
  rintro e w' ⟨rfl, rfl⟩
  go_wp2
  go_ret
  exact ⟨rfl, rfl⟩

theorem minus_eq (a b : Nat) (ha : a < 2305843009213693951) (hb : b < 2305843009213693951) : md (a + 2305843009213693951 - b) = subP a b := by
  unfold md subP; omega

set_option maxHeartbeats 400000 in
theorem minus_any (a b : Nat) (ha : a < 2305843009213693951) (hb : b < 2305843009213693951) (w : World) :
    Calls Try.prog 45 #[.int .u64 a, .int .u64 b] w fun e w' => e = .returned (.int .u64 (subP a b)) ∧ w' = w := by
  go_enter Try.func45, Try.ntmps45
  go_wp2_with fail
  refine (of_int _ (a + 2305843009213693951 - b) (by omega) (by omega) _).mono ?_
  rintro e w' ⟨rfl, rfl⟩
  rw [minus_eq a b ha hb]
  go_wp2
  go_ret
  exact ⟨rfl, rfl⟩

/- the library's product of two words, laid at this program -/
def mul64ren : Go.Shelf.Ren := ⟨fun | 264 => 53 | n => n, fun | 53 => 22 | 46 => 59 | n => n, fun | n => n⟩
theorem mul64lays : Go.Proofs.Lays.n264 Try.prog mul64ren := {
  mixed := by kernel_rfl
  f264 := Try.func53.trans (congrArg some (by kernel_rfl))
  t46 := Try.underlying59
  a46 := Try.isAgg59
  z46 := Try.sizeOf59
  v46 := Try.zeroValue59
  t53 := Try.underlying22
  a53 := Try.isAgg22
  z53 := Try.sizeOf22
  v53 := Try.zeroValue22 }
theorem Mul64_any (x y : Nat) (hx : x < 18446744073709551616) (hy : y < 18446744073709551616) (w : World) :
    Calls Try.prog 53 #[.int .u64 x, .int .u64 y] w fun e w' => e = .returned (.tuple #[.int .u64 ((x * y / 18446744073709551616 : Nat) : Int), .int .u64 ((x * y % 18446744073709551616 : Nat) : Int)]) ∧ w' = w :=
  Any.bits_Mul64 mul64lays x y hx hy w

theorem fold_eq (a b hi lo : Nat) (bhi : hi < 288230376151711744) (blo : lo < 18446744073709551616) (h : hi = a * b / 18446744073709551616 ∧ lo = a * b % 18446744073709551616) :
    IntKind.u64.wrap (bits BinOp.or IntKind.u64 ((hi : Int) * 8) ((lo : Int) / 2305843009213693952) + bits BinOp.and IntKind.u64 (lo : Int) 2305843009213693951) = ((a * b / 2305843009213693952 + a * b % 2305843009213693952 : Nat) : Int) := by
  have e1 := bits_or_u64_nat (hi * 8) (lo / 2305843009213693952) (by omega) (by omega)
  have e2 := bits_and_u64_nat lo 2305843009213693951 blo (by omega)
  have e3 : lo &&& 2305843009213693951 = lo % 2305843009213693952 := Nat.and_two_pow_sub_one_eq_mod lo 61
  have e4 : hi * 8 ||| lo / 2305843009213693952 = hi * 8 + lo / 2305843009213693952 := by
    have := Nat.shiftLeft_add_eq_or_of_lt (i := 3) (b := lo / 2305843009213693952) (by omega) hi
    rw [Nat.shiftLeft_eq] at this
    exact this.symm
  have e5 : ((hi : Int) * 8) = ((hi * 8 : Nat) : Int) := by omega
  have e6 : ((lo : Int) / 2305843009213693952) = ((lo / 2305843009213693952 : Nat) : Int) := by omega
  have e7 : (2305843009213693951 : Int) = ((2305843009213693951 : Nat) : Int) := rfl
  rw [e5, e6, e1, e7, e2, e3, e4, IntKind.wrap_u64]
  obtain ⟨h1, h2⟩ := h
  generalize a * b = n at *
  omega

set_option maxHeartbeats 1000000 in
theorem times_any (a b : Nat) (ha : a < 2305843009213693951) (hb : b < 2305843009213693951) (w : World) :
    Calls Try.prog 49 #[.int .u64 a, .int .u64 b] w fun e w' => e = .returned (.int .u64 (mulP a b)) ∧ w' = w := by
  have hp := prod_lt ha hb
  obtain ⟨hi, hhi⟩ : ∃ hi, hi = a * b / 18446744073709551616 := ⟨_, rfl⟩
  obtain ⟨lo, hlo⟩ : ∃ lo, lo = a * b % 18446744073709551616 := ⟨_, rfl⟩
  have c := Mul64_any a b (by omega) (by omega) w
  rw [← hhi, ← hlo] at c
  have bhi : hi < 288230376151711744 := by omega
  have blo : lo < 18446744073709551616 := by omega
  have H : Hid (hi = a * b / 18446744073709551616 ∧ lo = a * b % 18446744073709551616) := ⟨hhi, hlo⟩
  have HP : Hid (a * b < 5316911983139663491615228241121378304) := hp
  clear hhi hlo hp
  go_enter Try.func49, Try.ntmps49
  go_wp2_with fail
  refine c.mono ?_
  rintro e w' ⟨rfl, rfl⟩
  go_wp2_with fail
  refine (of_int _ (a * b / 2305843009213693952 + a * b % 2305843009213693952) (fold_eq a b hi lo bhi blo H.out) ?_ _).mono ?_
  · have := HP.out
    omega
  rintro e w' ⟨rfl, rfl⟩
  rw [show md (a * b / 2305843009213693952 + a * b % 2305843009213693952) = mulP a b from fold61 _ HP.out]
  go_wp2
  go_ret
  exact ⟨rfl, rfl⟩

set_option maxHeartbeats 1000000 in
theorem both_plus (a b : Nat) (ha : a < 18446744073709551616) (hb : b < 18446744073709551616) (w : World) :
    Calls Try.prog 44 #[.func (.func 50) #[] #[], .int .u64 a, .int .u64 b] w fun e w' => e = .returned (.int .u64 (addP a b)) ∧ w' = w := by
  have h1 := md_lt a
  have h2 := md_lt b
  go_enter Try.func44, Try.ntmps44
  go_wp2_with fail
  refine (of_any a ha _).mono ?_
  rintro e w' ⟨rfl, rfl⟩
  go_wp2_with fail
  refine (of_any b hb _).mono ?_
  rintro e w' ⟨rfl, rfl⟩
  go_wp2_with fail
  refine (plus_any (md a) (md b) h1 h2 _).mono ?_
  rintro e w' ⟨rfl, rfl⟩
  rw [addP_mod]
  go_wp2
  go_ret
  exact ⟨rfl, rfl⟩

set_option maxHeartbeats 1000000 in
theorem Add_any (a b : Nat) (ha : a < 18446744073709551616) (hb : b < 18446744073709551616) (w : World) :
    Calls Try.prog 41 #[.int .u64 a, .int .u64 b] w fun e w' => e = .returned (.int .u64 (addP a b)) ∧ w' = w := by
  go_enter Try.func41, Try.ntmps41
  go_wp2_with fail
  refine (both_plus a b ha hb _).mono ?_
  rintro e w' ⟨rfl, rfl⟩
  go_wp2
  go_ret
  exact ⟨rfl, rfl⟩

set_option maxHeartbeats 1000000 in
theorem both_minus (a b : Nat) (ha : a < 18446744073709551616) (hb : b < 18446744073709551616) (w : World) :
    Calls Try.prog 44 #[.func (.func 45) #[] #[], .int .u64 a, .int .u64 b] w fun e w' => e = .returned (.int .u64 (subP a b)) ∧ w' = w := by
  have h1 := md_lt a
  have h2 := md_lt b
  go_enter Try.func44, Try.ntmps44
  go_wp2_with fail
  refine (of_any a ha _).mono ?_
  rintro e w' ⟨rfl, rfl⟩
  go_wp2_with fail
  refine (of_any b hb _).mono ?_
  rintro e w' ⟨rfl, rfl⟩
  go_wp2_with fail
  refine (minus_any (md a) (md b) h1 h2 _).mono ?_
  rintro e w' ⟨rfl, rfl⟩
  rw [subP_mod]
  go_wp2
  go_ret
  exact ⟨rfl, rfl⟩

set_option maxHeartbeats 1000000 in
theorem Sub_any (a b : Nat) (ha : a < 18446744073709551616) (hb : b < 18446744073709551616) (w : World) :
    Calls Try.prog 36 #[.int .u64 a, .int .u64 b] w fun e w' => e = .returned (.int .u64 (subP a b)) ∧ w' = w := by
  go_enter Try.func36, Try.ntmps36
  go_wp2_with fail
  refine (both_minus a b ha hb _).mono ?_
  rintro e w' ⟨rfl, rfl⟩
  go_wp2
  go_ret
  exact ⟨rfl, rfl⟩

set_option maxHeartbeats 1000000 in
theorem both_times (a b : Nat) (ha : a < 18446744073709551616) (hb : b < 18446744073709551616) (w : World) :
    Calls Try.prog 44 #[.func (.func 49) #[] #[], .int .u64 a, .int .u64 b] w fun e w' => e = .returned (.int .u64 (mulP a b)) ∧ w' = w := by
  have h1 := md_lt a
  have h2 := md_lt b
  go_enter Try.func44, Try.ntmps44
  go_wp2_with fail
  refine (of_any a ha _).mono ?_
  rintro e w' ⟨rfl, rfl⟩
  go_wp2_with fail
  refine (of_any b hb _).mono ?_
  rintro e w' ⟨rfl, rfl⟩
  go_wp2_with fail
  refine (times_any (md a) (md b) h1 h2 _).mono ?_
  rintro e w' ⟨rfl, rfl⟩
  rw [mulP_mod]
  go_wp2
  go_ret
  exact ⟨rfl, rfl⟩

set_option maxHeartbeats 1000000 in
theorem Mul_any (a b : Nat) (ha : a < 18446744073709551616) (hb : b < 18446744073709551616) (w : World) :
    Calls Try.prog 40 #[.int .u64 a, .int .u64 b] w fun e w' => e = .returned (.int .u64 (mulP a b)) ∧ w' = w := by
  go_enter Try.func40, Try.ntmps40
  go_wp2_with fail
  refine (both_times a b ha hb _).mono ?_
  rintro e w' ⟨rfl, rfl⟩
  go_wp2
  go_ret
  exact ⟨rfl, rfl⟩

set_option maxHeartbeats 1000000 in
theorem Mod_any (a : Nat) (ha : a < 18446744073709551616) (w : World) :
    Calls Try.prog 46 #[.int .u64 a] w fun e w' => e = .returned (.int .u64 (md a)) ∧ w' = w := by
  go_enter Try.func46, Try.ntmps46
  go_wp2_with fail
  refine (of_any a ha _).mono ?_
  rintro e w' ⟨rfl, rfl⟩
  go_wp2
  go_ret
  exact ⟨rfl, rfl⟩

end Go.Proofs.Ythfaahngnnfefaa
