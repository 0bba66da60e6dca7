/-
  What the document's own answers for layer 1 (package offertoryref01) come to, called with any numbers; none of them touches memory.
-/
import Derived.Test.YtjbpnhibgafdmaaDoorProg
import Derived.Test.YtjbpnhibgafdmaaDoorMath
import Derived.WalkKit
import Derived.WalkLawsBesides
import Derived.WalkSpells
import Derived.Laws.Bits64b
namespace Go.Proofs.YtjbpnhibgafdmaaDoor
open Go.RowKit M
set_option linter.unusedVariables false

namespace R1
theorem retN {k : IntKind} {a b : Int} (h : a = b) : Ending.returned (.int k a) = .returned (.int k b) := by rw [h]

theorem cast_shr (y j : Nat) : (y : Int) / 2 ^ j = ((y / 2 ^ j : Nat) : Int) := by
  rw [Int.natCast_ediv, Int.natCast_pow]; rfl
theorem bit_cases (y j : Nat) (h : y < 18446744073709551616) : (y / 2 ^ j % 2 = 0 ∧ bits BinOp.and IntKind.u64 ((y : Int) / 2 ^ j) 1 = 0) ∨ (y / 2 ^ j % 2 = 1 ∧ bits BinOp.and IntKind.u64 ((y : Int) / 2 ^ j) 1 = 1) := by
  rw [cast_shr]
  have := Nat.div_le_self y (2 ^ j)
  generalize y / 2 ^ j = q at *
  rw [and_one_u64 _ (by omega) (by omega)]
  omega







set_option maxHeartbeats 1000000 in
theorem Mul_any (a b : Nat) (ha : a < 18446744073709551616) (hb : b < 18446744073709551616) (w : World) :
    Calls Tryd.prog 33 #[.int .u64 a, .int .u64 b] w fun e w' => e = .returned (.int .u64 (mulP a b)) ∧ w' = w := by
  obtain ⟨x, hx⟩ : ∃ x, x = a % 2305843009213693951 := ⟨_, rfl⟩
  obtain ⟨y, hy⟩ : ∃ y, y = b % 2305843009213693951 := ⟨_, rfl⟩
  have bx : x < 2305843009213693951 := by omega
  have bY : y < 2305843009213693951 := by omega
  have ex : (a : Int) % 2305843009213693951 = (x : Int) := by omega
  have ey : (b : Int) % 2305843009213693951 = (y : Int) := by omega
  have H : Hid (x = a % 2305843009213693951 ∧ y = b % 2305843009213693951) := ⟨hx, hy⟩
  clear hx hy
  go_enter Tryd.func33, Tryd.ntmps33
  go_wp2_with fail
  go_loop [5, 6] (fun vo vi => ∃ k o : Nat, vi = .int .i64 ((k : Int) - 1) ∧ vo = .int .u64 o ∧ k ≤ 61 ∧ o < 2305843009213693951 ∧ Hid (o = mulP x (y / 2 ^ k))) (fun _ vi => (intOf vi + 1).toNat)
  case atStart => exact ⟨61, 0, rfl, rfl, by omega, by omega, by
    show 0 = mulP x (y / 2 ^ 61)
    rw [Nat.div_eq_of_lt (by omega)]; simp [mulP]⟩
  case round =>
    obtain ⟨k, o, rfl, rfl, hk, ho, HR⟩ := hrel
    cases k with
    | zero =>
      go_wp2
      go_ret
      refine ⟨retN ?_, rfl⟩
      have h := HR.out
      obtain ⟨h1, h2⟩ := H.out
      rw [Nat.pow_zero, Nat.div_one, h1, h2] at h
      rw [h]
      unfold mulP
      rw [← Nat.mul_mod]
    | succ j =>
      rcases bit_cases y j (by omega) with ⟨ht, hb⟩ | ⟨ht, hb⟩
      · have HB : Hid (y / 2 ^ j % 2 = 0) := ht
        clear ht
        go_wp2
        go_round
        case rel => exact ⟨j, (o + o) % 2305843009213693951, by go_num, by go_num, by omega, by omega, bit_even x y j o HR.out HB.out⟩
        case measure => simp [intOf]
      · have HB : Hid (y / 2 ^ j % 2 = 1) := ht
        clear ht
        go_wp2
        go_round
        case rel => exact ⟨j, ((o + o) % 2305843009213693951 + x) % 2305843009213693951, by go_num, by go_num, by omega, by omega, bit_odd x y j o HR.out HB.out⟩
        case measure => simp [intOf]

set_option maxHeartbeats 1000000 in
theorem Pow_any (a n : Nat) (ha : a < 18446744073709551616) (hn : n < 18446744073709551616) (w : World) :
    Calls Tryd.prog 19 #[.int .u64 a, .int .u64 n] w fun e w' => e = .returned (.int .u64 (powP a n)) ∧ w' = w := by
  go_enter Tryd.func19, Tryd.ntmps19
  go_wp2_with fail
  go_loop [5, 6] (fun vo vi => ∃ k o : Nat, vi = .int .i64 ((k : Int) - 1) ∧ vo = .int .u64 o ∧ k ≤ 64 ∧ o < 2305843009213693951 ∧ Hid (o = powP a (n / 2 ^ k))) (fun _ vi => (intOf vi + 1).toNat)
  case atStart => exact ⟨64, 1, rfl, rfl, by omega, by omega, by
    show 1 = powP a (n / 2 ^ 64)
    rw [Nat.div_eq_of_lt (by omega)]; simp [powP]⟩
  case round =>
    obtain ⟨k, o, rfl, rfl, hk, ho, HR⟩ := hrel
    cases k with
    | zero =>
      go_wp2
      go_ret
      refine ⟨retN ?_, rfl⟩
      have h := HR.out
      rw [Nat.pow_zero, Nat.div_one] at h
      rw [h]
    | succ j =>
      have ho' : o < 18446744073709551616 := by omega
      have hq := mulP_lt o o
      rcases bit_cases n j (by omega) with ⟨ht, hb⟩ | ⟨ht, hb⟩
      · have HB : Hid (n / 2 ^ j % 2 = 0) := ht
        clear ht
        go_wp2_with fail
        refine (Mul_any o o ho' ho' _).mono ?_
        rintro e w' ⟨rfl, rfl⟩
        go_wp2
        go_round
        case rel => exact ⟨j, mulP o o, by go_num, rfl, by omega, mulP_lt _ _, sq_even a n j o HR.out HB.out⟩
        case measure => simp [intOf]
      · have HB : Hid (n / 2 ^ j % 2 = 1) := ht
        clear ht
        go_wp2_with fail
        refine (Mul_any o o ho' ho' _).mono ?_
        rintro e w' ⟨rfl, rfl⟩
        go_wp2_with fail
        refine (Mul_any (mulP o o) a (by omega) ha _).mono ?_
        rintro e w' ⟨rfl, rfl⟩
        go_wp2
        go_round
        case rel => exact ⟨j, mulP (mulP o o) a, by go_num, rfl, by omega, mulP_lt _ _, sq_odd a n j o HR.out HB.out⟩
        case measure => simp [intOf]
end R1
end Go.Proofs.YtjbpnhibgafdmaaDoor
