/-
  What the functions of package prime answer, called with any numbers: a contract a function; none of them touches memory.
-/
import Derived.Test.YtjbpnhibgafdmaaDoorProg
import Derived.Test.YtjbpnhibgafdmaaDoorMath
import Derived.WalkKit
import Derived.WalkLawsBesides
import Derived.WalkSpells
import Derived.Shelf.Bits.Mul64
import Derived.Laws.Bits64b
namespace Go.Proofs.YtjbpnhibgafdmaaDoor
open Go.RowKit M
set_option linter.unusedVariables false

theorem retN {k : IntKind} {a b : Int} (h : a = b) : Ending.returned (.int k a) = .returned (.int k b) := by rw [h]

set_option maxHeartbeats 400000 in
theorem of_any (x : Nat) (hx : x < 18446744073709551616) (w : World) :
    Calls Tryd.prog 55 #[.int .u64 x] w fun e w' => e = .returned (.int .u64 (md x)) ∧ w' = w := by
  go_enter Tryd.func55, Tryd.ntmps55
  go_wp2
  go_ret
  exact ⟨retN (by unfold md; omega), rfl⟩
theorem of_int (z : Int) (x : Nat) (hz : z = x) (hx : x < 18446744073709551616) (w : World) :
    Calls Tryd.prog 55 #[.int .u64 z] w fun e w' => e = .returned (.int .u64 (md x)) ∧ w' = w := by
  subst hz; exact of_any x hx w



theorem minus_eq (a b : Nat) (ha : a < 2305843009213693951) (hb : b < 2305843009213693951) : md (a + 2305843009213693951 - b) = subP a b := by
  unfold md subP; omega



/- the library's product of two words, laid at this program -/
def mul64ren : Go.Shelf.Ren := ⟨fun | 264 => 62 | n => n, fun | 53 => 23 | 46 => 62 | n => n, fun | n => n⟩
theorem mul64lays : Go.Proofs.Lays.n264 Tryd.prog mul64ren := {
  mixed := by kernel_rfl
  f264 := Tryd.func62.trans (congrArg some (by kernel_rfl))
  t46 := Tryd.underlying62
  a46 := Tryd.isAgg62
  z46 := Tryd.sizeOf62
  v46 := Tryd.zeroValue62
  t53 := Tryd.underlying23
  a53 := Tryd.isAgg23
  z53 := Tryd.sizeOf23
  v53 := Tryd.zeroValue23 }
theorem Mul64_any (x y : Nat) (hx : x < 18446744073709551616) (hy : y < 18446744073709551616) (w : World) :
    Calls Tryd.prog 62 #[.int .u64 x, .int .u64 y] w fun e w' => e = .returned (.tuple #[.int .u64 ((x * y / 18446744073709551616 : Nat) : Int), .int .u64 ((x * y % 18446744073709551616 : Nat) : Int)]) ∧ w' = w :=
  Any.bits_Mul64 mul64lays x y hx hy w

theorem fold_eq (a b hi lo : Nat) (bhi : hi < 288230376151711744) (blo : lo < 18446744073709551616) (h : hi = a * b / 18446744073709551616 ∧ lo = a * b % 18446744073709551616) :
    IntKind.u64.wrap (bits BinOp.or IntKind.u64 ((hi : Int) * 8) ((lo : Int) / 2305843009213693952) + bits BinOp.and IntKind.u64 (lo : Int) 2305843009213693951) = ((a * b / 2305843009213693952 + a * b % 2305843009213693952 : Nat) : Int) := by
  have e1 := bits_or_u64_nat (hi * 8) (lo / 2305843009213693952) (by omega) (by omega)
  have e2 := bits_and_u64_nat lo 2305843009213693951 blo (by omega)
  have e3 : lo &&& 2305843009213693951 = lo % 2305843009213693952 := Nat.and_two_pow_sub_one_eq_mod lo 61
  have e4 : hi * 8 ||| lo / 2305843009213693952 = hi * 8 + lo / 2305843009213693952 := by
    have := Nat.shiftLeft_add_eq_or_of_lt (i := 3) (b := lo / 2305843009213693952) (by omega) hi
    rw [Nat.shiftLeft_eq] at this
    exact this.symm
  have e5 : ((hi : Int) * 8) = ((hi * 8 : Nat) : Int) := by omega
  have e6 : ((lo : Int) / 2305843009213693952) = ((lo / 2305843009213693952 : Nat) : Int) := by omega
  have e7 : (2305843009213693951 : Int) = ((2305843009213693951 : Nat) : Int) := rfl
  rw [e5, e6, e1, e7, e2, e3, e4, IntKind.wrap_u64]
  obtain ⟨h1, h2⟩ := h
  generalize a * b = n at *
  omega

set_option maxHeartbeats 1000000 in
theorem times_any (a b : Nat) (ha : a < 2305843009213693951) (hb : b < 2305843009213693951) (w : World) :
    Calls Tryd.prog 56 #[.int .u64 a, .int .u64 b] w fun e w' => e = .returned (.int .u64 (mulP a b)) ∧ w' = w := by
  have hp := prod_lt ha hb
  obtain ⟨hi, hhi⟩ : ∃ hi, hi = a * b / 18446744073709551616 := ⟨_, rfl⟩
  obtain ⟨lo, hlo⟩ : ∃ lo, lo = a * b % 18446744073709551616 := ⟨_, rfl⟩
  have c := Mul64_any a b (by omega) (by omega) w
  rw [← hhi, ← hlo] at c
  have bhi : hi < 288230376151711744 := by omega
  have blo : lo < 18446744073709551616 := by omega
  have H : Hid (hi = a * b / 18446744073709551616 ∧ lo = a * b % 18446744073709551616) := ⟨hhi, hlo⟩
  have HP : Hid (a * b < 5316911983139663491615228241121378304) := hp
  clear hhi hlo hp
  go_enter Tryd.func56, Tryd.ntmps56
  go_wp2_with fail
  refine c.mono ?_
  rintro e w' ⟨rfl, rfl⟩
  go_wp2_with fail
  refine (of_int _ (a * b / 2305843009213693952 + a * b % 2305843009213693952) (fold_eq a b hi lo bhi blo H.out) ?_ _).mono ?_
  · have := HP.out
    omega
  rintro e w' ⟨rfl, rfl⟩
  rw [show md (a * b / 2305843009213693952 + a * b % 2305843009213693952) = mulP a b from fold61 _ HP.out]
  go_wp2
  go_ret
  exact ⟨rfl, rfl⟩















end Go.Proofs.YtjbpnhibgafdmaaDoor
